import Derived.Test.YtmalfecapdmdbaaGreatHo43
import Derived.Test.YtmalfecapdmdbaaGreatHo36
namespace Go.Proofs.YtmalfecapdmdbaaGreat
open Go.ChangeShapes Go.WideShapes Go.ChangeAt Go.RowKit Go.Proofs.Tryz
set_option linter.unusedVariables false
open Option renaming some → K,none → M
open Go.Value renaming slice → Z,int → Ag,agg → Am,bool → An,tuple → Ao
open Go renaming Value → J,World → Y,TypeId → Aj,Calls → Ai
open Go.RowKit renaming Below → Ah,Hid → Ae
open Go.World renaming setCell → Aa,ownsRow → Ab,alloc → Ac
open List renaming flatMap → Ad
open Go.Proofs.Tryz renaming prog → Ap
open Go.Obj renaming cells → Ak
open Go.Ending renaming returned → Al
open Go.IntKind renaming i64 → Af
set_option maxHeartbeats 8000000
set_option maxRecDepth 100000
variable {t e:Aj}{b i cap low X:Nat}{d s c:J}{g:VF}{f:MF}{y z:Int}{a:List Int}{x:MI}{q:Prop}
section
variable {r:DC} {E:Nat->List Nat} {n:Nat} {O:List Nat} {D L:Nat->Nat->Bool} {h:Nat}
theorem Gd.jN(g:Gd r E n O D L)(d:h<n)(z:Nat):(z:Int)∈(KI E D L n h).a8↔L h z=true:=by
 simp only[KI,ints,lA,mO,mL];constructor
 . rintro⟨a,⟨_,c⟩,e⟩;have:a=z:=oM;rw[<-this];exact c
 exact λb=>⟨z,⟨g.fl.ij d ((g.il _ _).1 b),b⟩,rfl⟩
theorem Gd.jE(g:Gd r E n O D L)(a:h<n):Ez (λb=>decide ((b:Int)∈(KI E D L n h).a8)) n= λb=>L h b=true:=by
 funext b
 apply propext;unfold Ez;rw[mB,g.jN a];exact⟨λq=>q.2, λq=>⟨g.fl.ij a ((g.il _ _).1 q),q⟩⟩
theorem Wm.j9(g:Gd r (nx r.a8) n O D L)(P:∀b m,r.a8[b]?=K m->m.next=ints (nx r.a8 b)){I F:List Nat}{C B:List Int}{E:Nat->Prop}{t:Int}{b:Bool}(s:KE (nx r.a8) n D E (jf I))(q:SE (nx r.a8) n D L E h)(G:∀c,0<=cf C c)(ht:0<=t)(W:Wm (nx r.a8) n r.a8 (KI (nx r.a8) D L n h) I C h (Dp O) t b F B):
 (b=false->NX (nx r.a8) (λb=>L h b=true) (· ∈AH (nx r.a8) D n h) (jf I) h (cf C) t M)/\(b=true->∃v,NX (nx r.a8) (λb=>L h b=true) (· ∈AH (nx r.a8) D n h) (jf I) h (cf C) t (K v)/\0<=v/\B=C.set h v/\∀j,jf F j=if j∈(KI (nx r.a8) D L n h).a8.map Int.toNat then h else jf I j):=by
 have H:=q.jw g.fl s;have ae:(AR (nx r.a8) D n h)= λb=>L h b=true:=funext λb=>propext (g.il h b).symm
 rw[ae]at H;have u:=H;rw[<-g.jE q.lt]at u;obtain⟨k,small,hw,U,V⟩:=W;cases small with
 | false=>have N:=hw.iH g.fl u G;rw[g.jE q.lt]at N;have f:=U rfl;exact⟨λ_=>.inl ⟨rfl,N⟩, λe=>by rw[f]at e;cases e⟩
 | true =>
   obtain⟨d,i,Q,S,k1,k2⟩:=V rfl;have y:=hw.pass g.fl s u G;rw[g.jE q.lt]at y;(have R:Ck (λb=>cf k (jf I b)) (· ∈AH (nx r.a8) D n h) d:=Q.iff λb=>(Gd.inB b).symm);have T:Ck (λb=>cf k (jf I b)) (Vk (nx r.a8) λb=>L h b=true) i:=S.iff λb=>by
    unfold Vk QR;rw[g.jN q.lt];constructor
    . rintro⟨p,x,a,A⟩;refine⟨p,?_⟩;cases l:r.a8[b]? with
      |none=>unfold nx at a;rw[l]at a;cases a
      | some m=>refine⟨m,rfl,(x:Int),?_, λe=>A ((g.jN q.lt x).1 e)⟩;rw[P b m l];exact lA.2 ⟨x,a,rfl⟩
    rintro⟨p,m,l,z,a,A⟩;rw[P b m l]at a;obtain⟨x,hx,rfl⟩:=lA.1 a;exact⟨p,x,hx, λe=>A ((g.jN q.lt x).2 e)⟩
   by_cases w:4294967295<t*d+i
   . have f:=k1 w;exact⟨λ_=>.inr ⟨cf k,d,i,y,R,T,by rw[kZ w]⟩, λe=>by rw[f]at e;cases e⟩
   obtain⟨f,X,hi⟩:=k2 oM;refine⟨(λe=>by rw[f]at e;cases e), λ_=>⟨t*d+i,.inr ⟨cf k,d,i,y,R,T,by rw[kP w]⟩,?_,X,hi⟩⟩;have p:=Int.mul_nonneg ht Q.nn;have a:=S.nn;omega
end
section
variable {p:MP} {fi:Int} {costs:List Int} {xs:List MI} {r:DC} {O:List Nat} {D L:Nat->Nat->Bool} {sl:List ML} {k hd:Nat} {I I2:List Nat} {C C2:List Int} {l:ML}
theorem Il.goI{t:Int}{b:Bool}(s:Il p fi costs xs r D L sl k false I C)(g:Gd r (nx r.a8) r.a8 O D L)(P:∀b m,r.a8[b]?=K m->m.next=ints (nx r.a8 b))(u:sl.Perm r.gE)(w:sl.Pairwise Iy)(a:sl[k]?=K l)(N:l∈r.gE)(G:l.head=(hd:Int))(B:AP p fi xs r.a8 l 0)(H:Ih p fi r.a8 hd=t)(Q:0<=t)(F:C.length= ↑r.a8)(E:Wm (nx r.a8) r.a8 r.a8 l I C hd (Dp O) t b I2 C2):
 (b=true->Il p fi costs xs r D L sl (k+1) false I2 C2)/\(b=false->QK (nx r.a8) r.a8 D L (Ih p fi r.a8) (Jn xs r.a8) (sl.map hN) (jf (List.range r.a8)) (cf (r.a8.map (Cz xs costs))) (-1)):=by
 obtain⟨rfl,f⟩:=g.at_ N G;have d:=g.jP u w a f;have j:(sl.drop k).map hN=hd::(sl.drop (k+1)).map hN:=by obtain⟨R,A⟩:=i6.1 a;rw[mD R,A,mX,Ll]
 obtain⟨y,z⟩:=E.j9 g P s.jz d s.cn Q;rw[<-H]at y z;refine⟨λe=> ?_, λe=>(s.ok rfl).2 _ (by rw[j];exact .bad (y e))⟩;obtain⟨v,S,T,rfl,U⟩:=z e;have i:jf I2= λb=>if L hd b then hd else jf I b:=by
  funext b
  rw[U b];by_cases e:L hd b=true
  . rw[kZ ((g.iY d.lt b).2 e),kZ e]
  rw[kP (λq=>e ((g.iY d.lt b).1 q)),kP e]
 have h:cf (C.set hd v)= λc=>if c=hd then v else cf C c:=funext λc=>Dl (an (by rw[F];exact d.lt))
 refine⟨λl' n=> ?_,by rw[i];exact g.step u w a f s.jz, λc=> ?_,(λe=>by cases e), λ_=>⟨(s.ok rfl).1, λv' x=>(s.ok rfl).2 v' ?_⟩⟩
 . rw[List.take_add_one,a]at n;rcases kO.1 n with q|q
   . exact s.lf l' q
   simp at q;rw[q];exact B
 . rw[h];by_cases q:c=hd
   . simp only[kZ q];exact T
   simp only[kP q];exact s.cn c
 rw[j];rw[i,h]at x;exact .step S x
theorem QJ.bad(g:Gd r (nx r.a8) r.a8 O D L)(c:sl.Perm r.gE)(d:sl.Pairwise Iy)(b:∀l∈r.gE,AP p fi xs r.a8 l 0)(a:∀m∈r.a8,¬CT xs costs m)(e:QK (nx r.a8) r.a8 D L (Ih p fi r.a8) (Jn xs r.a8) (sl.map hN) (jf (List.range r.a8)) (cf (r.a8.map (Cz xs costs))) (-1)):QJ p fi costs xs r (-1):=.inr ⟨b,a,O,D,L,sl,g,c,d,e⟩
theorem Il.j7{d:List Int}{small:Bool}{v:Int}(s:Il p fi costs xs r D L sl sl false I C)(g:Gd r (nx r.a8) r.a8 O D L)(h:sl.Perm r.gE)(l:sl.Pairwise Iy)(f:WP (nx r.a8) r.a8 (λb=>decide ((b:Int)∈r.gJ)) I C 0 (Dp O) d small)(i:small=false->v=-1)(j:small=true->Ck (λb=>cf d (jf I b)) (λb=>b< ↑r.a8/\Jn xs r.a8 b) v):QJ p fi costs xs r v:=by
 have k:=s.fin g h;have c:Ez (λb=>decide ((b:Int)∈r.gJ)) r.a8= λb=>b<r.a8.length:=by
  funext b
  apply propext;unfold Ez;rw[mB,g.ord];refine⟨λq=>q.1, λq=>⟨q,lA.2 ⟨b,mc.2 ((g.om b).2 q),rfl⟩⟩⟩
 have a:=k;rw[<-c]at a;refine s.done g h l (λ_=> ?_) (λe=>by cases e);cases small with
 | false=>have:=f.iH g.fl a s.cn;rw[c]at this;exact .inl ⟨i rfl,this⟩
 | true=>have:=f.pass g.fl s.jz a s.cn;rw[c]at this;exact .inr ⟨_,this,j rfl⟩
end
structure ON(u:Y)(B CB TB:Nat)(v:BI)(V S:J)(k j:Nat)(C:List Int):Prop where
 gK:AC u CB (Ja v V S) 195
 co:Ab u B 2 1 V k (Ad As C)
 st:Ab u B 2 1 S j (nv (List.range j))
 ap:∀g,V.ownBlock=K g->S.ownBlock≠K g
 bl:B<=CB
 tb:AC u TB #[.pointer CB] 193
theorem JK{u u':Y}{B c n:Nat}{xs:List J}{row:Option Nat}(h:Ab u B e c s n xs)(i:u.grownBy u' row)(j:∀g,s.ownBlock=K g->row≠K g):Ab u' B e c s n xs:=by
 refine⟨h.1,?_⟩;rcases h.2 with h|⟨g,cap,d,a,f,b,k⟩
 . exact .inl h
 refine .inr ⟨g,cap,d,a,f,?_,k⟩;rw[i.block g (kM.1 b).1 (λe=>j g (by rw[a];rfl) e.symm)];exact b
theorem UF{u:Y}{B b n:Nat}{xs:List J}{g:Nat}(h:Ab u B e b s n xs)(a:s.ownBlock=K g):g<u.heap.size:=by
 rcases BU h with⟨rfl,rfl⟩|⟨f,c,rfl⟩
 . cases a
 obtain⟨_,d,e⟩:=AD h;cases a
 exact(kM.1 e).1
theorem C8{u:Y}{B j n:Nat}{xs:List J}{f:Array J}(x:J)(h:Ab u B e j s n xs)(d:AC u b f t)(k:t≠e):Ab (Aa u ⟨b,i,M⟩ x) B e j s n xs:=by
 rcases BU h with⟨rfl,rfl⟩|⟨m,c,rfl⟩
 . refine⟨h.1,?_⟩;rcases h.2 with h|⟨g,cap,f,a,p,q,r⟩
   . exact .inl h
   cases a
 obtain⟨_,l,a⟩:=AD h;refine Bn h ?_;rintro rfl;unfold AC at d;rw[a]at d;cases d
 exact k rfl
section
variable {u u':Y} {B CB TB:Nat} {v:BI} {V S:J} {k j:Nat} {C:List Int}
theorem ON.a7(h:ON u B CB TB v V S k j C)(a:Ah u u u'):ON u' B CB TB v V S k j C:={h with gK:=h.gK.a7 a,co:=Aw h.co a lR,st:=Aw h.st a lR,tb:=h.tb.a7 a}
theorem ON.cells(h:ON u B CB TB v V S k j C):u TB=K (.pointer CB)/\u ⟨CB,15,M⟩=K V/\u ⟨CB,16,M⟩=K S:=⟨by rw[h.tb.cell];rfl,by rw[h.gK.cell];rfl,by rw[h.gK.cell];rfl⟩
theorem ON.ki{g:Nat}(h:ON u B CB TB v V S k j C)(m:Ab u' B 2 1 (sG g (k+1) cap) (k+1) (Ad As C++[iZ y]))(d:u.grownBy u' V.ownBlock)(l:V.ownBlock=K g\/g= ↑u):
 ON (Aa u' ⟨CB,15,M⟩ (sG g (k+1) cap)) B CB TB v (sG g (k+1) cap) S (k+1) j (C++[y])/\u' TB=K (.pointer CB)/\u' ⟨CB,15,M⟩=K V/\u'.frozen? ⟨CB,15,M⟩=false:=by
 have a:=h.gK.grown d h.co dC;have b:=h.tb.grown d h.co dC;have n:=JK h.st d (λf e c=>h.ap f c e);refine⟨⟨a.set 15 _,?_,C8 _ n a dC,?_,h.bl,b.other (λe=> ?_) _⟩,by rw[b.cell];rfl,by rw[a.cell];rfl,a.frozen 15⟩
 . have:=C8 (i:=15) (sG g (k+1) cap) m a dC;rw[lL];exact this
 . rintro f e c;(cases e);rcases l with q|rfl
   . exact h.ap _ q c
   exact absurd (UF h.st c) (Nat.lt_irrefl _)
 unfold AC at a b;simp only[]at e;rw[e,a]at b;cases b
theorem ON.kf{g:Nat}(h:ON u B CB TB v V S k j C)(m:Ab u' B 2 1 (sG g (j+1) cap) (j+1) (nv (List.range j)++[iZ (j:Int)]))(d:u.grownBy u' S.ownBlock)(l:S.ownBlock=K g\/g= ↑u):
 ON (Aa u' ⟨CB,16,M⟩ (sG g (j+1) cap)) B CB TB v V (sG g (j+1) cap) k (j+1) C/\u' TB=K (.pointer CB)/\u' ⟨CB,16,M⟩=K S/\u'.frozen? ⟨CB,16,M⟩=false:=by
 have a:=h.gK.grown d h.st dC;have b:=h.tb.grown d h.st dC;have n:=JK h.co d (λf e c=>h.ap f e c);refine⟨⟨a.set 16 _,C8 _ n a dC,?_,?_,h.bl,b.other (λe=> ?_) _⟩,by rw[b.cell];rfl,by rw[a.cell];rfl,a.frozen 16⟩
 . have:=C8 (i:=16) (sG g (j+1) cap) m a dC;rw[mw,Fx];exact this
 . rintro f e c;(cases c);rcases l with q|rfl
   . exact h.ap _ e q
   exact absurd (UF h.co e) (Nat.lt_irrefl _)
 unfold AC at a b;simp only[]at e;rw[e,a]at b;cases b
theorem ON.whole{n:Nat}(h:ON u B CB TB v V S n n C)(r:0<n)(q: ↑C=n)(p:∀y∈C,Ew y):∃a c f d,CC u B CB v n a c f d (List.range n) C:=by
 obtain⟨j,g,i,k,l,_⟩:=h;rcases BU g with⟨_,e⟩|⟨a,c,rfl⟩
 . omega
 rcases BU i with⟨_,e⟩|⟨f,d,rfl⟩
 . omega
 exact⟨a,c,f,d,j,g,i, λe=>k a rfl (by rw[e];rfl),q,sP,p, λb m=>mL.1 m,l⟩
end
def Yh(w:Y)(l:ML)(x:LV):Prop:=x.h=l.head/\x.xn= ↑l.back/\x.yn= ↑l.a8/\TP w (l,Z x.xa x.xn x.xc,Z x.ya x.yn x.yc)
def Xj(w:Y)(g o k:Nat):LV:=match w ⟨g,o+k*3,M⟩,w ⟨g,o+k*3+1,M⟩,w ⟨g,o+k*3+2,M⟩with
 |some (Ag _ h),K (Z a n c),K (Z a' n' c')=>⟨h,a,n,c,a',n',c'⟩
 |_,_,_=>default
theorem Yc{u:Y}{a:Option Addr}{n c:Nat}{p:List ML}(h:Mi u (Z a n c) p):∃zs:List LV,zs.length= ↑p/\(∀(k:Nat) (m:ML) (x:LV),p[k]?=K m->zs[k]?=K x->Yh u m x)/\KO u u a zs:=by
 cases hc:p with
 |nil=>exact⟨[],rfl, λk m x h=>by simp at h, λe=>absurd rfl e⟩
 | cons C E=>
   rw[<-hc];obtain⟨g,o,_,_,_,_,y,B,_⟩:=H0 h (k:=0) (m:=C) (by rw[hc];rfl);have A:∀k m,p[k]?=K m->∃d i f l,Xj u g o k=⟨m.head,d,m.back,i,f,m.a8,l⟩/\u ⟨g,o+k*3,M⟩=K ↑m.head/\u ⟨g,o+k*3+1,M⟩=K (Z d m.back i)/\u ⟨g,o+k*3+2,M⟩=K (Z f m.a8 l)/\TP u (m,Z d m.back i,Z f m.a8 l):= λk m r=>by obtain⟨D,F,d,i,f,l,q,s,t,v,w⟩:=H0 h r;rw[y]at q;(cases q);refine⟨d,i,f,l,?_,s,t,v,w⟩;unfold Xj;rw[s,t,v]
   refine⟨(List.range p).map (Xj u g o),sP, λk m x r b=> ?_, λ_=>⟨g,o,y,hC B, λj x b=> ?_⟩⟩
   . obtain⟨d,i,f,l,q,_,_,_,w⟩:=A k m r;rw[lE,oC (i6.1 r).1]at b;simp only[nI,kI]at b;rw[<-b,q];exact⟨rfl,rfl,rfl,w⟩
   (have z:j<p.length:=by have:=(i6.1 b).1;simpa using this);obtain⟨d,i,f,l,q,s,t,v,_⟩:=A j _ (an z);rw[lE,oC z]at b;simp only[nI,kI]at b;rw[<-b,q];exact⟨s,t,v⟩
inductive R5 {α β:Type} (R:α->β->Prop):List α->List β->Prop
 |nil:R5 R [] []
 |cons {x:α} {m:β} {zs:List α} {ls:List β}:R x m->R5 R zs ls->R5 R (x::zs) (m::ls)
theorem RH{α β:Type}{R:α->β->Prop}{ts zs:List α}(i:ts.Perm zs):∀{a:List β},R5 R zs a->∃sl:List β,sl.Perm a/\R5 R ts sl:=by
 induction i with
 |nil=>intro a h;exact⟨a,.refl _,h⟩
 | cons x _ j=>
   intro a h;cases h with
   | cons b c=>obtain⟨sl,d,e⟩:=j c;exact⟨_::sl,d.cons _,.cons b e⟩
 | swap x y l=>
   intro a h;cases h with
   | cons b c=>
     cases c with
     |cons f g=>exact⟨_::_::_,.swap _ _ _,.cons f (.cons b g)⟩
 | trans _ _ ih1 ih2=>intro a h;obtain⟨p,k,d⟩:=ih2 h;obtain⟨n,m,e⟩:=ih1 d;exact⟨n,m.trans k,e⟩
section
variable {α β:Type} {R:α->β->Prop} {ts:List α} {sl:List β}
theorem R5.len(h:R5 R ts sl):ts.length=sl.length:=by
 induction h with
 |nil=>rfl
 |cons _ _ a=>simp[a]
theorem R5.at_(h:R5 R ts sl):∀{k:Nat} {x:α},ts[k]?=K x->∃l,sl[k]?=K l/\R x l:=by
 induction h with
 |nil=>intro k x h;simp at h
 | cons a _ b=>
   intro k x h;cases k with
   |zero=>simp at h;exact⟨_,rfl,h▸a⟩
   |succ k=>exact b (k:=k) (by simpa using h)
theorem R5.mem(h:R5 R ts sl):∀{l:β},l∈sl->∃x∈ts,R x l:=by
 induction h with
 |nil=>intro l h;simp at h
 | cons a _ d=>
   intro l h;rcases kY.1 h with rfl|h
   . exact⟨_,sP,a⟩
   obtain⟨x,c,b⟩:=d h;exact⟨x,lU _ c,b⟩
theorem R5.pair{P:α->α->Prop}{Q T:β->β->Prop}(h:R5 R ts sl)(i:∀a b l m,R a l->R b m->P a b->Q l m->T l m)(f:ts.Pairwise P)(g:sl.Pairwise Q):sl.Pairwise T:=by
 induction h with
 |nil=>exact .nil
 | cons d e n=>
   cases f with
   | cons p q=>
     cases g with
     | cons r s=>refine .cons (λm c=> ?_) (n q s);obtain⟨x,k,j⟩:=e.mem c;exact i _ _ _ _ d j (p x k) (r m c)
end
theorem R9{α β:Type}{R:α->β->Prop}:∀{zs:List α} {a:List β},zs.length= ↑a->(∀(k:Nat) x m,zs[k]?=K x->a[k]?=K m->R x m)->R5 R zs a
 |[],[],_,_=>.nil
 |[],_::_,h,_=>by simp at h
 |_::_,[],h,_=>by simp at h
 |x::zs,m::a,h,h2=>.cons (h2 0 x m rfl rfl) (R9 (by simpa using h) λk e d b c=>h2 (k+1) e d (by simpa using b) (by simpa using c))
theorem Xu{w:Y}{ts zs:List LV}{c:List ML}(u:ts.Perm zs)(v:Mk ts)(t:zs.length= ↑c)(p:∀(k:Nat) (m:ML) (x:LV),c[k]?=K m->zs[k]?=K x->Yh w m x)(r:c.Pairwise λa b=>a.head≠b.head):∃sl:List ML,sl.Perm c/\sl.Pairwise Iy/\ts.length= ↑sl/\∀(k:Nat) (x:LV),ts[k]?=K x->∃l:ML,sl[k]?=K l/\l.head=x.h:=by
 obtain⟨sl,q,f⟩:=RH u (R9 (R:= λ(x:LV) (m:ML)=>x.h=m.head/\x.yn= ↑m.a8) t λk x m j n=>⟨(p k m x n j).1,(p k m x n j).2.2.1⟩)
 have s:sl.Pairwise λa b=>a.head≠b.head:=(q.symm.pairwise_iff (λh=>Ne.symm h)).1 r
 refine⟨sl,q,f.pair (λa b l m g i d e=> ?_) v s,f.len, λk x y=> ?_⟩
 . rw[LV.lt_iff,nR]at d;unfold Iy;rw[<-g.1,<-i.1]at e;rw[<-g.1,<-i.1,<-g.2,<-i.2];omega
 obtain⟨l,d,e⟩:=f.at_ y;exact⟨l,d,e.1.symm⟩
theorem Uk(v:VP)(p:MP)(g:VF)(f:MF)(x:MI)(w:Y)(m:p.small)(E:p.bO.length=3)(O:f.small)(R:x.wf)(h:Da w v p)(N:DE w g f)(G:AS p f x):
 Ai Ap 74 #[Am #[v.r,v.k,v.f,v.t],Am #[g.p,f.gy,g.l,g.c],Am #[x.op,x.a,x.b,x.c]] w (DI w (AG p f x) (AF p f x)):=by
 obtain⟨op,a,b,c⟩:=x;have Q:=G.1;have P:=G.2.1;simp only[]at Q P;have A:Ae (AS p f ⟨op,a,b,c⟩):=G;have L:Dg a:=R.2.1;have U:op=0\/op=1\/op=2\/op=3\/op=4\/op=5\/op=6\/op=7\/op=8\/op=9\/op=10\/op=11\/op=12\/op=13\/op=14\/op=15\/op=16\/op=17\/op=18\/op=19\/op=20\/op=21\/op=22\/op=23\/op=24\/op=25\/op=26\/op=27\/op=28\/op=29:=oM
 clear Q P G R;rcases U with rfl|rfl|rfl|rfl|rfl|rfl|rfl|rfl|rfl|rfl|rfl|rfl|rfl|rfl|rfl|rfl|rfl|rfl|rfl|rfl|rfl|rfl|rfl|rfl|rfl|rfl|rfl|rfl|rfl|rfl
 . rw[show AG p f ⟨0,a,b,c⟩=[]from by simp[AG],show AF p f ⟨0,a,b,c⟩=[]from by simp[AF]];exact Cj v.r v.k v.f v.t g.p g.l g.c f _ 0 a b c _ _ w sP
 . obtain⟨q,z,d,e⟩:=A.const rfl;simp only[]at d;subst d;obtain⟨T,ck,I⟩:=h.ej.dk;rw[show AG p f ⟨1,q,b,c⟩=[]from by simp[AG],show AF p f ⟨1,q,b,c⟩=[z.type]from by simp[AF,Xx,e],I];exact Xb v.r v.f v.t g.p g.l g.c f p.ej T ck q z b c w m.ej (I▸h.ej) e
 . rw[show AG p f ⟨2,a,b,c⟩=[]from by simp[AG],show AF p f ⟨2,a,b,c⟩=[AN f a]from by simp[AF]];exact Xc v.r v.k v.f v.t g f a b c w O L N
 . rw[show AG p f ⟨3,a,b,c⟩=[AN f a]from by simp[AG],show AF p f ⟨3,a,b,c⟩=[]from by simp[AF]];exact Xd v.r v.k v.f v.t g f a b c w O L N
 . obtain⟨q,z,r,d,e,j,y⟩:=A.cell E sP;simp only[]at d e;subst d e;obtain⟨xs,B,n,C⟩:=h.bO;obtain⟨s,u,i⟩:=n.dk;rw[show AG p f ⟨4,q,z,c⟩=[]from by simp[AG],show AF p f ⟨4,q,z,c⟩=[DK p ⟨4,q,z,c⟩]from by simp[AF],i];exact Xe v.k v.f v.t g.p g.l g.c f p.bO s u q z r _ c w m.bO (m.region r (i7 j)) (i▸h.bO) j y
 . obtain⟨q,z,r,d,e,j,y⟩:=A.cell E sP;simp only[]at d e;subst d e;obtain⟨xs,B,n,C⟩:=h.bO;obtain⟨s,u,i⟩:=n.dk;rw[show AG p f ⟨5,q,z,c⟩=[DK p ⟨5,q,z,c⟩]from by simp[AG],show AF p f ⟨5,q,z,c⟩=[]from by simp[AF],i];exact Xf v.k v.f v.t g.p g.l g.c f p.bO s u q z r _ c w m.bO (m.region r (i7 j)) (i▸h.bO) j y
 . obtain⟨q,z,r,d,e,j,y⟩:=A.cell E sP;simp only[]at d e;subst d e;obtain⟨xs,B,n,C⟩:=h.bO;obtain⟨s,u,i⟩:=n.dk;rw[show AG p f ⟨6,q,z,c⟩=[3]from by simp[AG],show AF p f ⟨6,q,z,c⟩=[DK p ⟨6,q,z,c⟩]from by simp[AF],i];exact Xg v.k v.f v.t g.p g.l g.c f p.bO s u q z r _ c w m.bO (m.region r (i7 j)) (i▸h.bO) j y
 . obtain⟨q,z,r,d,e,j,y⟩:=A.cell E sP;simp only[]at d e;subst d e;obtain⟨xs,B,n,C⟩:=h.bO;obtain⟨s,u,i⟩:=n.dk;rw[show AG p f ⟨7,q,z,c⟩=[3,DK p ⟨7,q,z,c⟩]from by simp[AG],show AF p f ⟨7,q,z,c⟩=[]from by simp[AF],i];exact Xh v.k v.f v.t g.p g.l g.c f p.bO s u q z r _ c w m.bO (m.region r (i7 j)) (i▸h.bO) j y
 . rw[show AG p f ⟨8,a,b,c⟩=[a,a]from by simp[AG],show AF p f ⟨8,a,b,c⟩=[a]from by simp[AF]];exact Cj v.r v.k v.f v.t g.p g.l g.c f _ 5 a b c _ _ w sP
 . rw[show AG p f ⟨9,a,b,c⟩=[a,a]from by simp[AG],show AF p f ⟨9,a,b,c⟩=[a]from by simp[AF]];exact Cj v.r v.k v.f v.t g.p g.l g.c f _ 5 a b c _ _ w sP
 . rw[show AG p f ⟨10,a,b,c⟩=[a,a]from by simp[AG],show AF p f ⟨10,a,b,c⟩=[a]from by simp[AF]];exact Cj v.r v.k v.f v.t g.p g.l g.c f _ 5 a b c _ _ w sP
 . rw[show AG p f ⟨11,a,b,c⟩=[a,a]from by simp[AG],show AF p f ⟨11,a,b,c⟩=[a]from by simp[AF]];exact Cj v.r v.k v.f v.t g.p g.l g.c f _ 5 a b c _ _ w sP
 . rw[show AG p f ⟨12,a,b,c⟩=[a,a]from by simp[AG],show AF p f ⟨12,a,b,c⟩=[a]from by simp[AF]];exact Cj v.r v.k v.f v.t g.p g.l g.c f _ 5 a b c _ _ w sP
 . rw[show AG p f ⟨13,a,b,c⟩=[a,a]from by simp[AG],show AF p f ⟨13,a,b,c⟩=[a]from by simp[AF]];exact Cj v.r v.k v.f v.t g.p g.l g.c f _ 6 a b c _ _ w sP
 . rw[show AG p f ⟨14,a,b,c⟩=[a,a]from by simp[AG],show AF p f ⟨14,a,b,c⟩=[a]from by simp[AF]];exact Cj v.r v.k v.f v.t g.p g.l g.c f _ 6 a b c _ _ w sP
 . rw[show AG p f ⟨15,a,b,c⟩=[a,a]from by simp[AG],show AF p f ⟨15,a,b,c⟩=[a]from by simp[AF]];exact Cj v.r v.k v.f v.t g.p g.l g.c f _ 6 a b c _ _ w sP
 . rw[show AG p f ⟨16,a,b,c⟩=[a]from by simp[AG],show AF p f ⟨16,a,b,c⟩=[a]from by simp[AF]];exact Cj v.r v.k v.f v.t g.p g.l g.c f _ 6 a b c _ _ w sP
 . rw[show AG p f ⟨17,a,b,c⟩=[3,3]from by simp[AG],show AF p f ⟨17,a,b,c⟩=[3]from by simp[AF]];exact Cj v.r v.k v.f v.t g.p g.l g.c f _ 0 a b c _ _ w sP
 . rw[show AG p f ⟨18,a,b,c⟩=[3,3]from by simp[AG],show AF p f ⟨18,a,b,c⟩=[3]from by simp[AF]];exact Cj v.r v.k v.f v.t g.p g.l g.c f _ 0 a b c _ _ w sP
 . rw[show AG p f ⟨19,a,b,c⟩=[2]from by simp[AG],show AF p f ⟨19,a,b,c⟩=[2]from by simp[AF]];exact Cj v.r v.k v.f v.t g.p g.l g.c f _ 0 a b c _ _ w sP
 . rw[show AG p f ⟨20,a,b,c⟩=[a,a]from by simp[AG],show AF p f ⟨20,a,b,c⟩=[1]from by simp[AF]];exact Cj v.r v.k v.f v.t g.p g.l g.c f _ 7 a b c _ _ w sP
 . rw[show AG p f ⟨21,a,b,c⟩=[a,a]from by simp[AG],show AF p f ⟨21,a,b,c⟩=[1]from by simp[AF]];exact Cj v.r v.k v.f v.t g.p g.l g.c f _ 5 a b c _ _ w sP
 . rw[show AG p f ⟨22,a,b,c⟩=[a]from by simp[AG],show AF p f ⟨22,a,b,c⟩=[b]from by simp[AF]];exact Cj v.r v.k v.f v.t g.p g.l g.c f _ 8 a b c _ _ w sP
 . rw[show AG p f ⟨23,a,b,c⟩=[0]from by simp[AG],show AF p f ⟨23,a,b,c⟩=[0,0]from by simp[AF]];exact Cj v.r v.k v.f v.t g.p g.l g.c f _ 0 a b c _ _ w sP
 . rw[show AG p f ⟨24,a,b,c⟩=[0]from by simp[AG],show AF p f ⟨24,a,b,c⟩=[]from by simp[AF]];exact Cj v.r v.k v.f v.t g.p g.l g.c f _ 0 a b c _ _ w sP
 . rw[show AG p f ⟨25,a,b,c⟩=[]from by simp[AG],show AF p f ⟨25,a,b,c⟩=[]from by simp[AF]];exact Cj v.r v.k v.f v.t g.p g.l g.c f _ 9 a b c _ _ w sP
 . rw[show AG p f ⟨26,a,b,c⟩=[1]from by simp[AG],show AF p f ⟨26,a,b,c⟩=[]from by simp[AF]];exact Cj v.r v.k v.f v.t g.p g.l g.c f _ 9 a b c _ _ w sP
 . rw[show AG p f ⟨27,a,b,c⟩=[]from by simp[AG],show AF p f ⟨27,a,b,c⟩=[]from by simp[AF]];exact Cj v.r v.k v.f v.t g.p g.l g.c f _ 10 a b c _ _ w sP
 . obtain⟨q,D,d,F⟩:=A.callee rfl;simp only[]at d;subst d;obtain⟨xs,B,n,C⟩:=h.bW;obtain⟨S,cf,H⟩:=n.dk;rw[show AG p f ⟨28,q,b,c⟩=D.gw from by simp[AG,F],show AF p f ⟨28,q,b,c⟩=A7 D from by simp[AF,F],H];exact VM v.r v.k v.t g.p g.l g.c f p.bW S cf q D b c w m.bW (m.func D (i7 F)) (H▸h.bW) F
 rw[show AG p f ⟨29,a,b,c⟩=[]from by simp[AG],show AF p f ⟨29,a,b,c⟩=[]from by simp[AF]];exact Cj v.r v.k v.f v.t g.p g.l g.c f _ 0 a b c _ _ w sP
section
open Go.Shelf
section
variable {u u':Y} {row:Option Nat}
theorem AC.held{a:Array J}(h:AC u b a t)(c:u.grownBy u' row)(d:∀r,row=K r->∃o:Obj,u.heap[r]?=K o/\o.isCells=false):AC u' b a t:=(grownBy_keeps_cells c d h rfl).trans h
theorem PN{B d n:Nat}{xs:List J}(h:Ab u B e d s n xs)(i:u.grownBy u' row)(j:∀r,row=K r->∃o:Obj,u.heap[r]?=K o/\o.isCells=false):Ab u' B e d s n xs:=JK h i (λg b k=>by
 rcases BU h with⟨rfl,rfl⟩|⟨m,c,rfl⟩
 . cases b
 obtain⟨_,l,e⟩:=AD h;cases b
 obtain⟨o,a,f⟩:=j _ k;rw[e]at a;cases a
 cases f)
theorem CC.held{B c:Nat}{v:BI}{n gC cC gS cS:Nat}{I:List Nat}{C:List Int}(h:CC u B c v n gC cC gS cS I C)(a:u.grownBy u' row)(b:∀r,row=K r->∃o:Obj,u.heap[r]?=K o/\o.isCells=false):CC u' B c v n gC cC gS cS I C:={h with gK:=h.gK.held a b,co:=PN h.co a b,st:=PN h.st a b}
theorem CC.sz{B a:Nat}{v:BI}{n gC cC gS cS:Nat}{I:List Nat}{C:List Int}(h:CC u B a v n gC cC gS cS I C):gC< ↑u/\gS<u.heap.size:=by obtain⟨_,c1,b⟩:=AD h.co;obtain⟨_,c2,c⟩:=AD h.st;exact⟨(kM.1 b).1,(kM.1 c).1⟩
theorem EI.kpc{gC gS:Nat}(h:EI (Cg gC gS) u u'):Jw gC gS u u':=⟨h.size, λk o a _ b c=>(h.block k (kM.1 a).1 (λe=>e.elim b c)).trans a⟩
theorem CC.keeps{A B d:Nat}{v:BI}{n gC cC gS cS:Nat}{I:List Nat}{C:List Int}(h:CC u B d v n gC cC gS cS I C)(c:EI (Cg gC gS) u u'):KeepsFrom A u u':=by
 obtain⟨_,c1,e⟩:=AD h.co;obtain⟨_,c2,f⟩:=AD h.st;refine⟨c.size, λk o _ a b=>(c.block k (kM.1 a).1 ?_).trans a⟩;rintro(rfl|rfl)
 . rw[e]at a;cases a;cases b
 rw[f]at a;cases a;cases b
end
structure QM(w u:Y)(v:BI)(y:Int):Prop where
 body:AC u w v.cells 160
 gU:AC u ((w:Nat)+1) #[y] 2
 e8:Ah w w u
theorem QM.a7{w u u':Y}{v:BI}(h:QM w u v y)(a:Ah u u u'):QM w u' v y:=⟨h.body.a7 a,h.gU.a7 a,Ar h.e8 lR a⟩
theorem QM.set{w u:Y}{v:BI}(h:QM w u v y)(z:Int):QM w (Aa u ⟨(w:Nat)+1,0,M⟩ z) v z:=⟨h.body.other sP _,h.gU.set 0 _,h.e8.setCell sP _⟩
def WG(p:MP)(fi:Int)(xs:List MI)(r:DC)(costs:List Int)(D L:Nat->Nat->Bool)(sl:List ML)(v:Int):Prop:=QK (nx r.a8) r.a8 D L (Ih p fi r.a8) (Jn xs r.a8) (sl.map hN) (jf (List.range r.a8)) (cf (r.a8.map (Cz xs costs))) v
def Mf{zs:List LV}(a:List {x:LV//x∈zs})(sl:List ML):Prop:=∀(k:Nat) (x:{x:LV//x∈zs}),a[k]?=K x->∃l:ML,sl[k]?=K l/\l.head=x.1.h
theorem Mf.init{zs:List LV}{a:List {x:LV//x∈zs}}{x:{x:LV//x∈zs}}{sl:List ML}(h:Mf (a++[x]) sl):Mf a sl/\∃l:ML,sl[a.length]?=K l/\l.head=x.1.h:=by refine⟨λk y b=>h k y ?_,h a x sP⟩;rw[lO (i6.1 b).1];exact b
structure Wi(w0:Y)(v:BI)(p:MP)(fi:Int)(xs:List MI)(r:DC)(costs:List Int)(D L:Nat->Nat->Bool)(gC cC gS cS:Nat)(zs:List LV)(pre:List {x:LV//x∈zs})(W:Y):Prop where
 ex:∃(I:List Nat) (C:List Int),CC W w0 w0 v r.a8 gC cC gS cS I C/\∀sl:List ML,sl.Perm r.gE->sl.Pairwise Iy->Mf pre sl->Il p fi costs xs r D L sl pre false I C
 tb:AC W ((w0:Nat)+1) #[.pointer w0] 193
 e8:Ah w0 w0 W
structure Yf(w:Y)(v:BI)(p:MP)(fi:Int)(xs:List MI)(r:DC)(costs:List Int)(D L:Nat->Nat->Bool)(zs:List LV)(c:Code)(pre:List {x:LV//x∈zs})(W:Y):Prop where
 ret:c=.ret
 fr:QM w W v (-1)
 bad:∀sl:List ML,sl.Perm r.gE->sl.Pairwise Iy->Mf pre sl->WG p fi xs r costs D L sl (-1)
section
variable {w w0:Y} {v:BI} {p:MP} {fi:Int} {xs:List MI} {r:DC} {costs:List Int} {D L:Nat->Nat->Bool} {gC cC gS cS:Nat} {zs:List LV}
theorem Wi.own{B:Nat}(i: ↑w0<=B):OwnFrom B (Wi w0 v p fi xs r costs D L gC cC gS cS zs):= λm W l row j a c=>by
 obtain⟨⟨I,C,f,g⟩,h,b⟩:=j;have d:∀r,row=K r->∃o:Obj,W.heap[r]?=K o/\o.isCells=false:= λr e=>(c r e).2
 exact⟨⟨I,C,f.held a d,g⟩,h.held a d,b.grown a b.size (λk e=>kV i (c k e).1)⟩
theorem Yf.own{B:Nat}(l: ↑w<=B)(c:Code):OwnFrom B (Yf w v p fi xs r costs D L zs c):= λq W n row m a d=>by
 obtain⟨g,⟨h,i,b⟩,j⟩:=m;have f:∀r,row=K r->∃o:Obj,W.heap[r]?=K o/\o.isCells=false:= λr e=>(d r e).2
 exact⟨g,⟨h.held a f,i.held a f,b.grown a b.size (λk e=>kV l (d k e).1)⟩,j⟩
theorem Wi.a7{c:List {x:LV//x∈zs}}{W b:Y}(h:Wi w0 v p fi xs r costs D L gC cC gS cS zs c W)(a:Ah W W b):Wi w0 v p fi xs r costs D L gC cC gS cS zs c b:=by obtain⟨⟨I,C,d,e⟩,f,g⟩:=h;exact⟨⟨I,C,d.a7 a,e⟩,f.a7 a,Ar g lR a⟩
end
theorem VY{zs:List LV}{g:Operand}{assign body:Code}{Q:Exit->Act->Y->Prop}{a:Act}{w:Y}{gf:Nat}{lb:Array J}(gC gS:Nat)(k:a.eval g=.func (.func gf) #[] lb)(s:∀args w,(callFunc gf args).run Ap w=.ok (.enter gf args) w)
 {S n:List {x:LV//x∈zs}->Prop} {N:Nat} (O:SeqStopsK Fence.wide 4 Ap gf lb (λx:{x:LV//x∈zs}=>#[.agg x.1.ie]) (Jw gC gS) S n N w)
 (I:List {x:LV//x∈zs}->Y->Prop) (h:Code->List {x:LV//x∈zs}->Y->Prop) (A:OwnFrom w I) (B:∀c,OwnFrom w (h c)) (u:I [] w)
 (E:∀(l:Nat) (b:List {x:LV//x∈zs}) (x:{x:LV//x∈zs}) (W:Y) (i:Act->Y->Prop),I b W->(∀d,KeepsFrom w W d->Jw gC gS W d->I b d->∀Bx,AC d Bx x.1.ie 85->i {tmps:=(a.tmps.setIfInBounds 67 (.agg x.1.ie)).setIfInBounds 12 (.pointer Bx),defers:=[]} d)->
  assign.wpIn (Fence.wide.inRound l) 3 Ap (Exit.then i (λ_ _ _=>False)) {tmps:=a.tmps.setIfInBounds 67 (.agg x.1.ie),defers:=[]} W)
 (F:∀(l:Nat) (b:List {x:LV//x∈zs}) (x:{x:LV//x∈zs}) (Bx:Nat) (W:Y),AC W Bx x.1.ie 85->I b W->body.wpIn (Fence.wide.inRound l) 3 Ap (ownPostG w (Jw gC gS) I h (b++[x]) W) {tmps:=(a.tmps.setIfInBounds 67 (.agg x.1.ie)).setIfInBounds 12 (.pointer Bx),defers:=[]} W)
 (G:∀(D:Nat) (xs:List {x:LV//x∈zs}) (W:Y), ↑w<=D->S xs->I xs W->W.heap[D]?=K (.deferred (K []))->Q .normal {a with defers:={target:=.collected D,args:=#[]}::a.defers} W)
 (P:∀(D:Nat) (c:Code) (b:List {x:LV//x∈zs}) (W:Y), ↑w<=D->n b->h c b W->W.heap[D]?=K (.deferred (K []))->c.wpIn Fence.wide 5 Ap Q {a with defers:={target:=.collected D,args:=#[]}::a.defers} W):
 (Code.rangeFunc g #[67] assign body).wpIn Fence.wide 5 Ap Q a w:=by
 refine wpIn_rangeFunc_ownH rfl oM k trivial s O Jw.trans Jw.put (kS _ _) (λ_=>rfl) I h A B u
  (λx a' W=>∃Bx,AC W Bx x.1.ie 85/\a'={tmps:=(a.tmps.setIfInBounds 67 (.agg x.1.ie)).setIfInBounds 12 (.pointer Bx),defers:=[]})
  (λx a' _ X T row L k H=>by obtain⟨Bx,f,j⟩:=L;exact⟨Bx,f.held k (λr e=>(H r e).2),j⟩) ?_ ?_ G P
 . intro l b x W i m C;(have q:=E l b x W i m λd f j y Bx z=>C _ _ f j y ⟨Bx,z,rfl⟩);have e:((#[67]:Array Tmp).zip #[Value.agg x.1.ie]).foldl (λ(t:Array J) (R:Tmp×J)=>match R with|(p,v)=>t.setIfInBounds p v) a.tmps=a.tmps.setIfInBounds 67 (.agg x.1.ie):=sP;rw[<-e]at q;exact q
 rintro l b x a' W _ _ m ⟨Bx,f,rfl⟩ _;exact F l b x Bx W f m
end
structure L6(w u:Y)(v:VP)(g:VF)(f:MF)(x:MI)(N:Nat)(T S:J)(ts gs:List Int)(shv:J)(sh:List Int):Prop where
 gT:TK w u v g f x.op x.a x.b x.c
 eb:AC u N #[T,S] 145
 tr:Rd u 1 T ts (Ad As ts)
 gr:Rd u 1 S gs (Ad As gs)
 sr:Rd u 1 shv sh (Ad As sh)
theorem L6.a7{w u e:Y}{v:VP}{N:Nat}{T S:J}{ts b:List Int}{c:List Int}(h:L6 w u v g f x N T S ts b d c)(a:Ah u u e):L6 w e v g f x N T S ts b d c:=⟨h.gT.a7 a,h.eb.a7 a,h.tr.a7 a lR,h.gr.a7 a lR,h.sr.a7 a lR⟩
theorem LH{u:Y}{a:Option Addr}{n c:Nat}{zs:List Int}(h:Rd u 1 (Z a n c) zs (Ad As zs))(l:n= ↑zs)(f:zs[i]?=K z):∃b d,a=K ⟨b,d,M⟩/\u ⟨b,d+i,M⟩=K ↑z:=by
 have k:=(i6.1 f).1;rcases h.2 with⟨e,_⟩|⟨b,d,cc,e,j⟩
 . omega
 simp only[i8]at e;have g:=Rd.elem AA j i _ f 0 _ rfl;rw[lN,kJ]at g;exact⟨b,d,e.1,g⟩
def XN(p:MP)(f:MF)(x:MI)(a:List Int)(w:Y)(e:Ending)(b:Y):Prop:=∃V,e=Al (Ao #[V,(Cf p f x a)])/\(Cf p f x a=0->Ab b w 2 1 V (BO p f x a).length (Ad As (BO p f x a)))/\Ah w w b
theorem M1{n j:Nat}{u:J}(h:(Ad As (a.take n))[j]?=K u):(Ad As a)[j]?=K u:=by
 have e:Ad As a=Ad As (a.take n)++Ad As (a.drop n):=by rw[<-lL,m9]
 rw[e,lO (i6.1 h).1];exact h
def Yj(low:Nat)(a:List Int)(t:Int):Int:=if t=0 then(a[low]?).getD 0 else t
def DZ(low:Nat)(a b:List Int)(k:Nat):List Int:=a.take low++(b.take k).map (Yj low a)
theorem Nm{b:List Int}{k:Nat}{t:Int}(h:a[k]?=K t):DZ low b a (k+1)=DZ low b a k++[Yj low b t]:=by unfold DZ;obtain⟨c,rfl⟩:=i6.1 h;rw[kU c,mF,mm];rfl
theorem Uz{p:MP}{b:List Int}(h:IJ p f x b=low)(c:AF p f x=a):DZ low b a a=BO p f x b:=by unfold DZ BO;rw[h,c,List.take_length];rfl
theorem PK{b:List Int}{k:Nat}(d:low<= ↑b)(c:k<= ↑a):(DZ low b a k).length=low+k:=by unfold DZ;rw[kE,lh,lC,lh];omega
theorem Sp(u:Y)(z:Int):∀j v,[(iZ z:J)][j]?=K v->(Ac u (Ak #[z] 2)) ((⟨u,0,M⟩:Addr).add j)=K v:= λj v a=>by rw[Dk,lM,nh _ _ _ _ _ _ (Ht u #[z] 2)];simpa using a
theorem Vu{p:MP}{a ts:List Int}(e:AG p f x=ts)(h:a.length< ↑ts):Cf p f x a=1:=by unfold Cf;rw[e,kZ h]
theorem XU{a wr d:Y}{b c:List Int}{low k cap g:Nat}{f:Option Addr}{e:Nat}(p:Ab wr a 2 1 (Z f (low+k) g) (low+k) (Ad As (DZ low c b k)))(h:Ah a a wr)(i:DZ low c b (k+1)=DZ low c b k++[z])(n:Ab d a 2 1 (sG e (low+k+1) cap) (low+k+1) (Ad As (DZ low c b k)++[iZ z]))(l:(Ac wr (Ak #[iZ z] 2)).grownBy d (Z f (low+k) g).ownBlock):Ae (Ab d a 2 1 (sG e (low+(k+1)) cap) (low+(k+1)) (Ad As (DZ low c b (k+1)))/\Ah a a d):=by refine⟨?_,(h.alloc h.size _).grown l (by rw[nZ];have:=h.size;omega) (λj m=>(p.lt j m).1)⟩;rw[i,lL,<-Nat.add_assoc];simpa[As]using n
theorem QC{q:Prop}(h:q:=by
 clear J1 J2 K0 inst j1 j2 e0 e1 HI HF;go_wp2;go_roundw;case rel=>exact⟨j,(j:Int)-1,by omega,by go_num,by omega,HF2,HI2⟩
 simp[intOf]):q:=h
theorem QD{q:Prop}(h:q:=by
 go_wp2;go_roundw;case rel=>exact⟨k+1,K g5,cap5,by omega,rfl,by go_num,HN⟩
 simp[intOf];omega):q:=h
theorem Lu(v:VP)(p:MP)(g:VF)(f:MF)(x:MI)(bo:J)(d:List Int)(w:Y)(hs:p.small)(h3:p.bO.length=3)(bx:f.small)(bH:x.wf)(h:Da w v p)(hf:DE w g f)(hx:AS p f x)(aY:Rd w 1 bo d (Ad As d))(hl:d.length<=1048576)(bt:∀a c,bo=Z a d c-> ↑d<=c)(bI:∀t∈AF p f x,t=0->0<(AG p f x).length)(bB:(AF p f x).length<=2):
 Ai Ap 39 #[Am #[v.r,v.k,v.f,v.t],Am #[g.p,f.gy,g.l,g.c],Am #[x.op,x.a,x.b,x.c],bo] w (XN p f x d w):=by
 obtain⟨r1,r3,k1,k3,t1,t3,f1,f3,rfl⟩:=h.sl;obtain⟨O,P,Q,R,S,T,rfl⟩:=EH hf;obtain⟨sa,I,rfl⟩:=aY.dk;obtain⟨i0,hi,bg,bi,bj⟩:=lS Bp;have bV:=bt sa I rfl;clear bt;have H:=Av (d5 hs (d5 h3 (d5 bx (d5 bH (d5 h (d5 hf (d5 hx aY)))))));clear hs h3 bx bH h hf hx aY;have E0:=Av (TK.of w ⟨Z r1 p.bO r3,Z k1 p.ej k3,Z f1 p.bW f3,Z t1 p.eD t3⟩ ⟨Z O f.gw P,Z Q f.gG R,Z S f.eC T⟩ f x.op x.a x.b x.c);go_enter func39,ntmps39;go_upto_region 1 with fail
 refine Ax (λu=>Ae (TK w u ⟨Z r1 p.bO r3,Z k1 p.ej k3,Z f1 p.bW f3,Z t1 p.eD t3⟩ ⟨Z O f.gw P,Z Q f.gG R,Z S f.eC T⟩ f x.op x.a x.b x.c)) E0 ?_;rintro U0 L;clear E0;obtain⟨p0,p1,p2,p3⟩:=L.prog;obtain⟨q0,q1,q2,q3⟩:=L.func;obtain⟨x0,x1,x2,x3⟩:=L.ins;go_wp2_with fail;refine(Uk ⟨Z r1 p.bO r3,Z k1 p.ej k3,Z f1 p.bW f3,Z t1 p.eD t3⟩ p ⟨Z O f.gw P,Z Q f.gG R,Z S f.eC T⟩ f x U0 H.1 H.2.1 H.2.2.1 H.2.2.2.1 (H.2.2.2.2.1.a7 L.e8 lR) (H.2.2.2.2.2.1.a7 L.e8 lR) H.2.2.2.2.2.2.1).mono ?_;rintro e u1 ⟨Tv,Sv,rfl,tr,gr,b1⟩;obtain⟨ta,tc,rfl⟩:=tr.dk;obtain⟨ga,gc,rfl⟩:=gr.dk;generalize bf:AG p f x=ts at tr gr⊢;generalize aF:AF p f x=m at gr⊢;rw[bf,aF]at bI;rw[aF]at bB;have aj:Ae ((∀t∈m,t=0->0<ts.length)/\m.length<=2/\ ↑d<=I):=⟨bI,bB,bV⟩
 have ah:=Av (d5 bf aF);clear bf aF p0 p1 p2 p3 q0 q1 q2 q3 x0 x1 x2 x3;have E2:Ae (L6 w (Ac u1 (Ak #[Z ta ts tc,Z ga m gc] 145)) ⟨Z r1 p.bO r3,Z k1 p.ej k3,Z f1 p.bW f3,Z t1 p.eD t3⟩ ⟨Z O f.gw P,Z Q f.gG R,Z S f.eC T⟩ f x u1 (Z ta ts tc) (Z ga m gc) ts m (Z sa d I) d):=by have F:=Aq u1 (Ak #[Z ta ts tc,Z ga m gc] 145);exact⟨(L.a7 b1).a7 F,AC.new _ _ _,tr.a7 F lR,gr.a7 F lR,(H.2.2.2.2.2.2.2.a7 (Ar L.e8 lR b1) lR).a7 F lR⟩
 clear tr gr b1 L;go_upto_region 2 with fail
 generalize u1.heap.size=N at E2⊢;refine Ax (λu=>Ae (L6 w u ⟨Z r1 p.bO r3,Z k1 p.ej k3,Z f1 p.bW f3,Z t1 p.eD t3⟩ ⟨Z O f.gw P,Z Q f.gG R,Z S f.eC T⟩ f x N (Z ta ts tc) (Z ga m gc) ts m (Z sa d I) d)) E2 ?_;rintro U E3;clear E2;have e0:=E3.eb.cell 0;have e1:=E3.eb.cell 1;simp only[kB,i9,kC]at e0 e1;have br:=Av E3.gT.e8;by_cases aU:d.length< ↑ts
 . have bu:(d:Int)<(ts:Int):=oM;have C:=Av (Vu ah.1 aU);clear aU;go_wp2_with fail;exact kQ (v:=Ao #[sN,iZ 1]) (by simp[results,results39,go_sem]) rfl ⟨sN,by rw[C], λe=>by rw[C]at e;exact absurd e dC,br⟩
 obtain⟨low,bF⟩:∃low:Nat, ↑d=low+ts.length:=⟨d.length-↑ts,oM⟩
 have aE:Ae (IJ p f x d=low):=by show ↑d-(AG p f x).length=low;rw[ah.1];omega
 have bu:¬(d:Int)<(ts:Int):=oM;have A:=Av bF;clear bF;go_upto_region 6 with fail
 rw[show(d:Int)-(ts:Int)=(low:Int)by have:=A.o;omega];have cE:wrap64 ((ts:Int)-1)=(ts:Int)-1:=IntWalk.wrap64_in _ (by have:=A.o;omega);clear aU bu e0 e1;go_wp2;rw[cE];go_loopw [13] (λi wr=>∃(q:Nat) (z:Int),q<= ↑ts/\i=iZ z/\z+1=q/\Ae (∀(k:Nat) s t,q<=k->(d.drop low)[k]?=K s->ts[k]?=K t->t=0\/s=t)/\Ae (L6 w wr ⟨Z r1 p.bO r3,Z k1 p.ej k3,Z f1 p.bW f3,Z t1 p.eD t3⟩ ⟨Z O f.gw P,Z Q f.gG R,Z S f.eC T⟩ f x N (Z ta ts tc) (Z ga m gc) ts m (Z sa d I) d)) (λi _=>(intOf i+1).toNat)
 case atStart=>exact⟨ts,(ts:Int)-1,oM,rfl,oM, λk s t hk _ ht=>absurd (i6.1 ht).1 oM,E3⟩
 clear E3 br;obtain⟨q,z,hq,rfl,hz,HF,HI⟩:=hrel;have aG:=A.o;have e0:=HI.eb.cell 0;have e1:=HI.eb.cell 1;simp only[kB,i9,kC]at e0 e1;by_cases cu:q=0
 . obtain rfl:z=-1:=oM;have bK:=Av ((Hw (by rw[mQ];omega)).2 (λk s t X G=>HF.o k s t oM X G));clear HF cu hz hq aG;obtain⟨q0,q1,q2,q3⟩:=HI.gT.func;obtain⟨x0,x1,x2,x3⟩:=HI.gT.ins;(go_upto_region 11 with fail);go_cut [67] (λs wx=>∃bb:Bool,s=An bb/\Ae (bb=true↔(x.op=27/\AN f x.a≠3))/\Ae (L6 w wx ⟨Z r1 p.bO r3,Z k1 p.ej k3,Z f1 p.bW f3,Z t1 p.eD t3⟩ ⟨Z O f.gw P,Z Q f.gG R,Z S f.eC T⟩ f x N (Z ta ts tc) (Z ga m gc) ts m (Z sa d I) d))
   case first=>
    by_cases am:x.op=27
    . (have bR:(x.op==27)=true:=by simpa using am);have aI:=Av am;clear am;go_wp2_with fail;refine(Eo ⟨Z O f.gw P,Z Q f.gG R,Z S f.eC T⟩ f x.a wr H.2.2.1 H.2.2.2.1.2.1 (H.2.2.2.2.2.1.a7 HI.gT.e8 lR)).mono ?_;rintro e u1 ⟨rfl,b1⟩;by_cases au:AN f x.a=3
      . (have bY:(AN f x.a != 3)=false:=by simpa using au);have aM:=Av au;go_wp2_with fail;go_meet;exact⟨false,rfl,⟨λe=>(by cases e), λe=>absurd aM.o e.2⟩,HI.a7 b1⟩
      (have bY:(AN f x.a != 3)=true:=by simpa using au);have aM:=Av au;clear au;go_wp2_with fail;go_meet;exact⟨true,rfl,⟨λ_=>⟨aI,aM⟩, λ_=>rfl⟩,HI.a7 b1⟩
    (have bR:(x.op==27)=false:=by simpa using am);have aI:=Av am;clear am;go_wp2_with fail;go_meet;exact⟨false,rfl,⟨λe=>(by cases e), λe=>absurd e.1 aI.o⟩,HI⟩
   case rest=>
    obtain⟨bb,rfl,bp,aA⟩:=hcut;clear HI q0 q1 q2 q3 x0 x1 x2 x3 e0 e1;rcases Bool.eq_false_or_eq_true bb with aS|aS
    . subst aS;(have C:Ae (Cf p f x d=2):=by show Cf p f x d=2;unfold Cf;rw[ah.1,kP (by have:=A.o;omega),kZ (.inr (bp.1 rfl))]);go_wp2_with fail;exact kQ (v:=Ao #[sN,iZ 2]) (by simp[results,results39,go_sem]) rfl ⟨sN,by rw[C], λe=>by rw[C]at e;exact absurd e dC,aA.gT.e8⟩
    subst aS;have bP:Ae (¬(x.op=27/\AN f x.a≠3)):= λe=>by have:=bp.2 e;cases this
    obtain⟨y,hN⟩:∃W,W=wc:=⟨_,rfl⟩;subst hN;have aG:=A.o;have bT:(low:Int)<=(I:Int):=oM;have bZ:low<=I:=oM;clear aG;(go_upto_region 13 with fail);go_cut [12,14] (λl s wx=>∃(a:Option Addr) (c:Nat),l=iZ (low:Int)/\s=Z a low c/\Ae (Ab wx y 2 1 (Z a low c) low (Ad As (d.take low))/\Ah y y wx))
    case first=>
     have F:=Aq y (Ak #[] 2);have HO:Ae (Ab (Ac y (Ak #[] 2)) y 2 1 (sG y 0 0) 0 []):=⟨rfl,.inr ⟨y,0,#[],rfl,Nat.le_refl _,Ht _ _ _,Nat.le_refl _,mz _,rfl,rfl⟩⟩;have bL:Ae _:=aA.a7 F;cases sa with
     | none=>
       have cG:d.length=0:=by
        rcases aA.sr.2 with⟨e,_⟩|⟨gg,oo,cc,e,hc⟩
        . exact e
        simp at e
       (obtain rfl:low=0:=by have:=A.o;omega);clear cG bT bZ;go_wp2_with fail;go_meet;exact⟨K y,0,rfl,rfl,HO,F⟩
     | some ad=>
       have HN:Ae (∀j u,(Ad As (d.take low))[j]?=K u->(Ac y (Ak #[] 2)) (ad.add j)=K u):= λj u hj=>by
        rcases bL.sr.2 with⟨e,_⟩|⟨gg,oo,cc,e,hc⟩
        . (have cM:(Ad As d).length=0:=by rw[AE As 1 AA,e]);have:=(i6.1 (M1 hj)).1;omega
        simp only[i8,kI]at e;obtain⟨rfl,_,_⟩:=e;rw[Dk];exact hc j u (M1 hj)
       (have HL:Ae ((Ad As (d.take low)).length=low*1):=by show _=_;rw[AE As 1 AA,lh];have:=A.o;omega);go_wp2_with (at_builtin;refine wpList_append_own _ rfl _ _ 46 rfl y 2 i0 (iZ 0) 1 8 underlying46 hi bg bi bj rfl dC _ 0 [] rfl HO ad low I (Ad As (d.take low)) rfl HL HN ?c1 ?c2 ?c3 ?c4 ?_);(case c1=>intro u hu;obtain⟨z,_,hz⟩:=my.1 hu;simp[As]at hz;subst hz;rfl);(case c2=>have:=A.o;unfold maxLen;omega);(case c3=>have:=A.o;omega);(case c4=>exact F.size);intro v' w' aX bC cg;(obtain⟨a2,c2,rfl⟩:∃a c,v'=Z a low c:=by have:=(Rd.gM aX).dk;simpa using this);have HB:=Av (d5 (F.grown bC sP (λk hk=>by simp[Value.ownBlock]at hk;omega)) ((by simpa using aX):Ab w' y 2 1 (Z a2 low c2) low (Ad As (d.take low))));clear aX bC cg;go_wp2_with fail;go_meet;exact⟨a2,c2,rfl,rfl,HB.2,HB.1⟩
    case rest=>
     obtain⟨oa,oc,rfl,rfl,aP⟩:=hcut;have HW:Ae _:=aA.o;go_wp2;go_loopw [14,15,16] (λo i _ wr=>∃(k:Nat) (a:Option Addr) (c:Nat),k<= ↑m/\o=Z a (low+k) c/\i=iZ (k:Int)/\Ae (Ab wr y 2 1 (Z a (low+k) c) (low+k) (Ad As (DZ low d m k))/\Ah y y wr)) (λ_ i _ _=> ↑m-(intOf i).toNat)
     (case atStart=>exact⟨0,oa,oc,oM,rfl,rfl,by have D:=aP.1;simpa[DZ]using D,aP.2⟩);clear aP;clear oa oc;obtain⟨k,oa,oc,hk,rfl,rfl,HI⟩:=hrel;have ao:Ae _:=HW.a7 HI.2;have e1:=ao.eb.cell 1;simp only[kB,i9,kC]at e1;by_cases ce:k< ↑m
     . obtain⟨B,E⟩:∃t,m[k]?=K t:=⟨_,an ce⟩;obtain⟨gg,og,rfl,j1⟩:=LH ao.gr rfl E;have cJ:(k:Int)<(m.length:Int):=oM;have cH:=aj.2.1;by_cases V:B=0
       . subst V;have cj:=aj.1 0 (i7 E) rfl;obtain⟨sl,aZ⟩:∃s,d[low]?=K s:=⟨_,an (by have:=A.o;omega)⟩;obtain⟨bQ,os,rfl,j2⟩:=LH ao.sr rfl aZ;(have cw:(low:Int)<(d:Int):=by have:=A.o;omega);(have aJ:Ae (DZ low d m (k+1)=DZ low d m k++[sl]):=by show DZ low d m (k+1)=_;rw[Nm E];simp[Yj,aZ]);clear E aZ cj;have ae:Ae (Ab (Ac wr (Ak #[sl] 2)) y 2 1 (Z oa (low+k) oc) (low+k) (Ad As (DZ low d m k))/\ ↑y<=(Ac wr (Ak #[sl] 2)).heap.size):=⟨Aw HI.1 (Aq _ _) lR,by rw[nZ];have:=HI.2.size;omega⟩
         go_wp2_with (at_builtin;refine wpList_append_lies _ rfl _ _ 46 rfl y 2 i0 (iZ 0) 1 8 underlying46 hi bg bi bj rfl dC _ (low+k) (Ad As (DZ low d m k)) rfl ae.1 wr 1 1 [sl] rfl rfl (Sp wr sl) (λu hu=>by simp at hu;subst hu;rfl) oM (by have:=A.o;have:=aj.2.1;simp[maxLen];omega) (by have:=A.o;have:=aj.2.1;omega) ae.2 _ rfl ?_;intro g5 cap5 w5 aw aq aR aW;have HN:Ae (Ab w5 y 2 1 (sG g5 (low+(k+1)) cap5) (low+(k+1)) (Ad As (DZ low d m (k+1)))/\Ah y y w5):=XU HI.1 HI.2 aJ aw aq;clear aw aq aR aW)
         exact QD
       (have aJ:Ae (DZ low d m (k+1)=DZ low d m k++[B]):=by show DZ low d m (k+1)=_;rw[Nm E];simp[Yj,V]);(have bG:(B==0)=false:=by simpa using V);clear E;have ae:Ae (Ab (Ac wr (Ak #[B] 2)) y 2 1 (Z oa (low+k) oc) (low+k) (Ad As (DZ low d m k))/\ ↑y<=(Ac wr (Ak #[B] 2)).heap.size):=⟨Aw HI.1 (Aq _ _) lR,by rw[nZ];have:=HI.2.size;omega⟩
       go_wp2_with (at_builtin;refine wpList_append_lies _ rfl _ _ 46 rfl y 2 i0 (iZ 0) 1 8 underlying46 hi bg bi bj rfl dC _ (low+k) (Ad As (DZ low d m k)) rfl ae.1 wr 1 1 [B] rfl rfl (Sp wr B) (λu hu=>by simp at hu;subst hu;rfl) oM (by have:=A.o;have:=aj.2.1;simp[maxLen];omega) (by have:=A.o;have:=aj.2.1;omega) ae.2 _ rfl ?_;intro g5 cap5 w5 aw aq aR aW;have HN:Ae (Ab w5 y 2 1 (sG g5 (low+(k+1)) cap5) (low+(k+1)) (Ad As (DZ low d m (k+1)))/\Ah y y w5):=XU HI.1 HI.2 aJ aw aq;clear aw aq aR aW)
       clear ae HI;exact QD
     obtain rfl:k=m.length:=oM;have aQ:Ae ((BO p f x d).length=low+ ↑m/\DZ low d m m=BO p f x d):=by have D:=Uz aE ah.2;exact⟨by rw[<-D,PK (by have:=A.o;omega) lR],D⟩
     have bq:Ae (Cf p f x d=if 64<low+ ↑m then 3 else 0):=by show Cf p f x d=_;unfold Cf;rw[ah.1,kP (by have:=A.o;omega),kP (by rw[aE];rintro(e|e);exact absurd (bK.symm.trans e) dC;exact bP.o e),aQ.1]
     by_cases aT:64<low+ ↑m
     . (have C:Ae (Cf p f x d=3):=by have:=bq.o;rw[kZ aT]at this;exact this);have bS:(64:Int)<(low:Int)+(m:Int):=oM;clear aT;go_wp2_with fail;exact kQ (v:=Ao #[sN,iZ 3]) (by simp[results,results39,go_sem]) rfl ⟨sN,by rw[C], λe=>by rw[C]at e;exact absurd e dC,ao.gT.e8⟩
     (have C:Ae (Cf p f x d=0):=by have:=bq.o;rw[kP aT]at this;exact this);have bS:¬(64:Int)<(low:Int)+(m:Int):=oM;go_wp2_with fail;exact kQ (v:=Ao #[Z oa (low+ ↑m) oc,iZ 0]) (by simp[results,results39,go_sem]) rfl ⟨Z oa (low+ ↑m) oc,by rw[C], λ_=>by rw[aQ.1,<-aQ.2];exact Br HI.1 HW.gT.e8.size,ao.gT.e8⟩
 obtain⟨j,rfl⟩:∃j,q=j+1:=⟨q-1,oM⟩;obtain rfl:z=(j:Int):=oM;obtain⟨B,E⟩:∃t,ts[j]?=K t:=⟨_,an oM⟩;obtain⟨sv,b7⟩:∃s,d[low+j]?=K s:=⟨_,an oM⟩;obtain⟨gt,ot,rfl,j1⟩:=LH HI.tr rfl E;obtain⟨bQ,os,rfl,j2⟩:=LH HI.sr rfl b7;have hd:(d.drop low)[j]?=K sv:=by rw[oG];exact b7
 have HV:=Av (d5 E hd);have cI:(j:Int)<(ts:Int):=oM;have cw:(low:Int)+(j:Int)<(d:Int):=oM;clear E b7 hd aG;have inst:=AB.some wr;have J1:= λn:AB wr=>AB.cell j1 n
 have J2:= λn:AB wr=>AB.cell j2 n
 have K0:= λn:AB wr=>AB.cell e0 n
 by_cases V:B=0
 . (have bG:(B != 0)=false:=by simpa using V);go_wp2_with fail;refine AL kR kR ?_;(repeat(go_big_quiet_step (fail)));refine wpQuiet_nil ?_;rintro bJ ⟨n',rfl⟩;have HI2:Ae _:=HI.a7 n'.h;have HF2:Ae (∀(k:Nat) s t,j<=k->(d.drop low)[k]?=K s->ts[k]?=K t->t=0\/s=t):= λk s t hk X G=>by
    by_cases e:k=j
    . subst e;rw[HV.1]at G;exact .inl (by rw[<-kH G];exact V)
    exact HF.o k s t oM X G
   exact QC
 have bG:(B != 0)=true:=by simpa using V
 by_cases aH:sv=B
 . (have cA:(sv != B)=false:=by simpa using aH);go_wp2_with fail;refine AL kR kR ?_;(repeat(go_big_quiet_step (fail)));refine wpQuiet_nil ?_;rintro bJ ⟨n',rfl⟩;have HI2:Ae _:=HI.a7 n'.h;have HF2:Ae (∀(k:Nat) s t,j<=k->(d.drop low)[k]?=K s->ts[k]?=K t->t=0\/s=t):= λk s t hk X G=>by
    by_cases e:k=j
    . subst e;rw[HV.1]at G;rw[HV.2]at X;exact .inr (by rw[<-kH X,<-kH G];exact aH)
    exact HF.o k s t oM X G
   exact QC
 have cA:(sv != B)=true:=by simpa using aH
 have C:Ae (Cf p f x d=2):=by
  show Cf p f x d=2;unfold Cf;rw[ah.1,kP (by have:=A.o;omega),kZ (.inl (Bool.eq_false_iff.2 (λe=>by
   have D:=(Hw (by rw[mQ,aE];have:=A.o;omega)).1 e j sv B (by rw[aE];exact HV.2) HV.1;rcases D with D|D
   . exact V D
   exact aH D)))]
 go_wp2_with fail;refine AL kR kR ?_;repeat(go_big_quiet_step (fail))
 refine wpQuiet_nil ?_;rintro bJ ⟨n',rfl⟩;have HI2:=HI.a7 n'.h;go_wp2_with fail;exact kQ (v:=Ao #[sN,iZ 2]) (by simp[results,results39,go_sem]) rfl ⟨sN,by rw[C], λe=>by rw[C]at e;exact absurd e dC,HI2.gT.e8⟩
theorem Of(g:VF)(f:MF)(w:Y)(q:DE w g f):
 Ai Ap 64 #[Am #[g.p,f.gy,g.l,g.c]] w (Df w (A7 f)):=by
 obtain⟨a,b,d,e,i,j,rfl⟩:=EH q;by_cases h:f.gy=0
 . (have n:(f.gy==0)=true:=by simpa using h);have m:Ae (A7 f=[]):=kZ h;clear h;go_enter func64,ntmps64;go_wp2_with fail;rw[m];have k:=Fc (Aq w (Ak #[Z a f.gw b,f.gy,Z d f.gG e,Z i f.eC j] 70)) [] 0 0 rfl;rw[show(Ac w (Ak #[Z a f.gw b,f.gy,Z d f.gG e,Z i f.eC j] 70)).heap.size= ↑w+1 from sP]at k
   exact kQ (v:=Z (K ⟨(w:Nat)+1,0,M⟩) 0 0) (by simp[results,results64,go_sem]) rfl k
 have n:(f.gy==0)=false:=by simpa using h
 have m:Ae (A7 f=[f.gy]):=kP h;clear h;go_enter func64,ntmps64;go_wp2_with fail;rw[m];have k:=Fc (Aq w (Ak #[Z a f.gw b,f.gy,Z d f.gG e,Z i f.eC j] 70)) [f.gy] 1 1 rfl;rw[show(Ac w (Ak #[Z a f.gw b,f.gy,Z d f.gG e,Z i f.eC j] 70)).heap.size= ↑w+1 from sP]at k
 exact kQ (v:=Z (K ⟨(w:Nat)+1,0,M⟩) 1 1) (by simp[results,results64,go_sem]) rfl k
theorem VV{w:Y}{i l k j:J}{r:DC}(h:FN w i l k j r):∃d s c1 e t c2 f u c3 g v c4,i=Z d s c1/\l=Z e t c2/\k=Z f u c3/\j=Z g v c4:=by
 obtain⟨d,c1,m⟩:∃a c,i=Z a r.a8 c:=by obtain⟨_,_,b,_⟩:=h.a8;exact b.dk
 obtain⟨e,c2,n⟩:=h.gJ.dk;obtain⟨f,c3,p⟩:=h.gQ.dk;obtain⟨g,c4,q⟩:∃a c,j=Z a r.gE c:=by obtain⟨_,_,b,_⟩:=h.gE;exact b.dk
 exact⟨d,_,c1,e,_,c2,f,_,c3,g,_,c4,m,n,p,q⟩
theorem M2(c a:Int)(b d e f:Option Addr)(g c1 h c2 i c3 j c4:Nat)(W:Y):(Instr.field 80 (Am #[c,a,Z b g c1,Z d h c2,Z e i c3,Z f j c4]) 0).run Ap W=.ok c W:=kR
theorem RP(f:MF):(A7 f).length<=1048576:=by unfold A7;split<;>simp
theorem Hx:A6 x=true↔Ip x.op:=by unfold Ip;simp[A6,or_assoc]
structure Wq(w u:World)(v:VP)(g:VF)(f:MF)(Y:Nat)(shv:J)(shs:List (List Int)):Prop where
 pb:AC u w #[v.r,v.k,v.f,v.t] 36
 fb:AC u Y #[g.p,f.gy,g.l,g.c] 70
 rf:DE u g f
 rs:EP u shv shs
 e8:Ah w w u
theorem Wq.a7{w u e:Y}{v:VP}{c:List (List Int)}(h:Wq w u v g f b d c)(a:Ah u u e):Wq w e v g f b d c:=⟨h.pb.a7 a,h.fb.a7 a,h.rf.a7 a lR,h.rs.a7 a lR,Ar h.e8 lR a⟩
structure R8(w u:World)(v:VP)(g:VF)(f:MF)(Y:Nat)(shv:J)(shs:List (List Int))(X:Nat)(x:MI)(ad:Addr)(row:J)(sh:List Int):Prop where
 sp:Wq w u v g f Y shv shs
 xb:AC u X #[x.op,x.a,x.b,x.c] 72
 at_:u ad=K row
 rd:Rd u 1 row sh (Ad As sh)
theorem R8.a7{w u j:Y}{v:VP}{i:J}{e:List (List Int)}{c:Addr}{row:J}{d:List Int}(h:R8 w u v g f b i e X x c row d)(a:Ah u u j):R8 w j v g f b i e X x c row d:=⟨h.sp.a7 a,h.xb.a7 a,Bh a h.at_,h.rd.a7 a lR⟩
theorem R8.jH{w u:Y}{v:VP}{e:J}{a:Nat}{j:J}{i:List (List Int)}{b:Addr}{row:J}{g:List Int}(h:R8 w u v ⟨e,d,c⟩ f a j i X x b row g):u b=K row/\u a=K e/\u ⟨a,1,M⟩=K ↑f.gy/\u ⟨a,2,M⟩=K d/\u ⟨a,3,M⟩=K c:=⟨h.at_,h.sp.fb.cell 0,h.sp.fb.cell 1,h.sp.fb.cell 2,h.sp.fb.cell 3⟩
theorem R8.args{w u:Y}{m l k n j i g:J}{d:Nat}{r:J}{q:List (List Int)}{e:Addr}{row:J}{p:List Int}(h:R8 w u ⟨m,l,k,n⟩ ⟨j,i,g⟩ f d r q X x e row p):u e=K row/\u d=K j/\u ⟨d,1,M⟩=K ↑f.gy/\u ⟨d,2,M⟩=K i/\u ⟨d,3,M⟩=K g/\u w=K m/\u ⟨w,1,M⟩=K l/\u ⟨w,2,M⟩=K k/\u ⟨w,3,M⟩=K n/\u X=K ↑x.op/\u ⟨X,1,M⟩=K ↑x.a/\u ⟨X,2,M⟩=K ↑x.b/\u ⟨X,3,M⟩=K ↑x.c:=⟨h.at_,h.sp.fb.cell 0,h.sp.fb.cell 1,h.sp.fb.cell 2,h.sp.fb.cell 3,h.sp.pb.cell 0,h.sp.pb.cell 1,h.sp.pb.cell 2,h.sp.pb.cell 3,h.xb.cell 0,h.xb.cell 1,h.xb.cell 2,h.xb.cell 3⟩
theorem C9{u:Y}{a:Option Addr}{n c:Nat}{p:List (List Int)}(h:EP u (Z a n c) p)(B:n= ↑p){b:List Int}(d:p[i]?=K b):∃j k l g,a=K ⟨j,k,M⟩/\u ⟨j,k+i,M⟩=K (Z l b g)/\Rd u 1 (Z l b g) b (Ad As b)/\ ↑b<=g:=by
 obtain⟨xs,s,t,v⟩:=h;have A:=(i6.1 d).1;obtain⟨x,f,z⟩:∃x,xs[i]?=K x/\x.1=b:=by
  rw[<-s,lE]at d;cases f:xs[i]? with
  |none=>rw[f]at d;cases d
  |some x=>rw[f]at d;exact⟨x,rfl,kH d⟩
 subst z;rcases t.2 with⟨e,_⟩|⟨j,k,cc,e,w⟩
 . omega
 simp only[i8]at e;have m:=Rd.elem A5 w i _ f 0 _ rfl;rw[lN,kJ]at m;obtain⟨q,l,g,r,y⟩:=v x (i7 f);rw[r]at m q;exact⟨j,k,l,g,e.1,m,q,y⟩
theorem L5(h:q:=by go_wp2_with fail;go_ret;exact⟨⟨false,rfl, λe=>(by cases e), λe=>absurd e HN.o⟩,E5.e8⟩):q:=h
theorem L7(h:q:=by go_wp2_with fail;go_ret;exact⟨⟨false,rfl, λe=>(by cases e), λe=>absurd e HN.o⟩,E2.2⟩):q:=h
theorem QE(h:q:=by go_wp2_with fail;go_ret;exact⟨⟨false,rfl, λe=>(by cases e), λe=>absurd e HN.o⟩,HI.2.e8⟩):q:=h
theorem LS (v : VP) (p : MP)(fi:Int)(bp:J)(j:List (List Int))(w:Y)(hs:p.small)(hw:p.wf)(bK:Dg fi)(h:Da w v p)(hl:j.length<=1048576)(bP:∀r∈j,r.length<=1048576)(hr:EP w bp j):
 Ai Ap 36 #[Am #[v.r,v.k,v.f,v.t],fi,bp] w λe F=>AJ e (BR p fi j)/\Ah w w F:=by
 obtain⟨A,C,z,l,D,E,f1,f3,rfl⟩:=h.sl;obtain⟨ha,hc,rfl⟩:∃a c,bp=Z a j c:=by obtain⟨_,_,h2,_⟩:=hr;exact h2.dk
 have H:Ae (p.small/\p.wf/\Dg fi/\Da w ⟨Z A p.bO C,Z z p.ej l,Z f1 p.bW f3,Z D p.eD E⟩ p/\EP w (Z ha j hc) j/\j.length<=1048576/\∀r∈j,r.length<=1048576):=⟨hs,hw,bK,h,hr,hl,bP⟩
 clear hs hw bK h hr hl bP;have b0:=Aq w (Ak #[Z A p.bO C,Z z p.ej l,Z f1 p.bW f3,Z D p.eD E] 36);have E0:Ae (AC (Ac w (Ak #[Z A p.bO C,Z z p.ej l,Z f1 p.bW f3,Z D p.eD E] 36)) w #[Z A p.bO C,Z z p.ej l,Z f1 p.bW f3,Z D p.eD E] 36/\Ah w w (Ac w (Ak #[Z A p.bO C,Z z p.ej l,Z f1 p.bW f3,Z D p.eD E] 36))):=⟨AC.new _ _ _,b0⟩
 clear b0;go_enter func36,ntmps36;go_upto_region 1 with fail
 refine Ax (λu=>Ae (AC u w #[Z A p.bO C,Z z p.ej l,Z f1 p.bW f3,Z D p.eD E] 36/\Ah w w u)) E0 ?_
 rintro U0 E1;clear E0;have p0:=E1.1.cell 0;have p1:=E1.1.cell 1;have p2:=E1.1.cell 2;have p3:=E1.1.cell 3;simp only[kB,i9,kC]at p0 p1 p2 p3;go_wp2_with fail;refine(Dj ⟨Z A p.bO C,Z z p.ej l,Z f1 p.bW f3,Z D p.eD E⟩ p U0 H.1 H.2.1 (H.2.2.2.1.a7 E1.2 lR)).mono ?_;rintro e u1 ⟨⟨n,rfl,hn⟩,b1⟩;have E2:Ae (AC u1 w #[Z A p.bO C,Z z p.ej l,Z f1 p.bW f3,Z D p.eD E] 36/\Ah w w u1):=⟨E1.1.a7 b1,Ar E1.2 lR b1⟩
 clear b1 E1 p0 p1 p2 p3;clear U0;have p2:=E2.1.cell 2;simp only[kB,i9,kC]at p2;by_cases bg:n=0
 . subst bg;have aI:Ae (A4 p 0):=hn;clear hn;by_cases cM:fi<0
   . (have HN:Ae (¬BR p fi j):= λe=>absurd e.2.1 oM);(have d6:decide (fi<0)=true:=by simpa using cM);exact L7
   by_cases d7:(p.bW:Int)<=fi
   . (have HN:Ae (¬BR p fi j):= λe=>by obtain⟨f,hf,_⟩:=e.2.2;have:=(i6.1 hf).1;omega);exact L7
   . obtain ⟨q, rfl⟩ := kX (show 0<=fi from oM);obtain⟨f,hf⟩:∃f,p.bW[q]?=K f:=⟨_,an oM⟩;have bC:=(H.2.2.2.1.a7 E2.2 lR).bW;obtain⟨gk,ok,ck,bH,g,bj,m0,m1,m2,m3⟩:=Io bC hf;simp only[i8,lB]at bH;obtain⟨rfl,rfl⟩:=bH;obtain⟨Q,R,S,T,g7,P,rfl⟩:=EH bj;have dd:(q:Int)<(p.bW:Int):=oM;have HF:Ae (p.bW[q]?=K f/\f.small/\CE f/\f.wf):=⟨hf,H.1.func f (i7 hf),aI.parts.2.2.1.2.2.1 q (i6.1 hf).1 f hf,H.2.1.bW f (i7 hf)⟩
     (have E3:Ae (Wq w (Ac u1 (Ak #[Z Q f.gw R,f.gy,Z S f.gG T,Z g7 f.eC P] 70)) ⟨Z A p.bO C,Z z p.ej l,Z (K ⟨gk,ok,M⟩) p.bW f3,Z D p.eD E⟩ ⟨Z Q f.gw R,Z S f.gG T,Z g7 f.eC P⟩ f u1 (Z ha j hc) j):=by have b2:=Aq u1 (Ak #[Z Q f.gw R,f.gy,Z S f.gG T,Z g7 f.eC P] 70);exact⟨E2.1.a7 b2,AC.new _ _ _,bj.a7 b2 lR,(H.2.2.2.2.1.a7 E2.2 lR).a7 b2 lR,Ar E2.2 lR b2⟩);clear bC bj hf;(go_upto_region 4 with fail);generalize u1.heap.size=N at E3⊢;refine Ax (λu=>Ae (Wq w u ⟨Z A p.bO C,Z z p.ej l,Z (K ⟨gk,ok,M⟩) p.bW f3,Z D p.eD E⟩ ⟨Z Q f.gw R,Z S f.gG T,Z g7 f.eC P⟩ f N (Z ha j hc) j)) E3 ?_;rintro U E4;clear E3 E2 m0 m1 m2 m3 p2;clear u1;have y3:=E4.fb.cell 3;simp only[kB,i9,kC]at y3;go_wp2_with fail;refine(Fb (Z g7 f.eC P) f.eC U HF.2.1.2.2 E4.rf.2.2).mono ?_;rintro e u2 ⟨r,vb,vo,vi,vl,rfl,b7,bT,b2⟩;obtain⟨v1,n1,c1,v2,n2,c2,v3,n3,c3,v4,n4,c4,rfl,rfl,rfl,rfl⟩:=VV bT;have cQ:=M2 r.eC r.at_ v1 v2 v3 v4 n1 c1 n2 c2 n3 c3 n4 c4;clear bT;have E5:Ae (Wq w u2 ⟨Z A p.bO C,Z z p.ej l,Z (K ⟨gk,ok,M⟩) p.bW f3,Z D p.eD E⟩ ⟨Z Q f.gw R,Z S f.gG T,Z g7 f.eC P⟩ f N (Z ha j hc) j):=E4.a7 b2;clear b2 E4 y3;clear U;by_cases aA:r.eC=0
     . have cR := M2 0 r.at_ v1 v2 v3 v4 n1 c1 n2 c2 n3 c3 n4 c4;have ce:Ae (KN f.eC):=⟨r,b7,aA⟩;clear b7;(have cI:(r.eC != 0)=false:=by simpa using aA);by_cases bf:j.length= ↑f.eC
       . (have bS : 0 < j.length:=by have:=HF.2.2.1.iU;omega);obtain⟨aW,bo⟩:∃s,j[0]?=K s:=⟨_,an bS⟩;obtain⟨V,oo,sa,sc,cw,j0,aT,_⟩:=C9 E5.rs rfl bo;subst cw;rw[kJ]at j0;have bF:Ae (j[0]?=K aW):=bo;have cX:(0:Int)<(j:Int):=oM;have bQ:((j:Int) != (f.eC:Int))=false:=oT;have au:Ae (j.length= ↑f.eC/\0<j.length):=⟨bf,bS⟩
         clear bo aT bf;by_cases hz:aW.length=0
         . (have bV : ((aW :Int) != 0)=false:=by simp;exact lJ hz);(have HZ:Ae (j[0]?=K []):=by have:=bF.o;rw[lJ hz]at this;exact this);go_wp2_with fail;clear j0 hz bV cQ cR bQ cX;go_loopw [9,10,11,12] (λi _ _ _ wr=>∃k:Nat,k<= ↑f.eC/\i=Ag Af (k:Int)/\Ae ((∀(i:Nat) x d,i<k->f.eC[i]?=K x->j[i]?=K d->CU p f j i x d)/\Wq w wr ⟨Z A p.bO C,Z z p.ej l,Z (K ⟨gk,ok,M⟩) p.bW f3,Z D p.eD E⟩ ⟨Z Q f.gw R,Z S f.gG T,Z g7 f.eC P⟩ f N (Z (K ⟨V,oo,M⟩) j hc) j)) (λi _ _ _ _=> ↑f.eC-(intOf i).toNat)
           (case atStart=>exact⟨0,oM,rfl, λi x d hi=>absurd hi oM,E5⟩);clear E5;obtain⟨k,hk,rfl,HI⟩:=hrel;by_cases cW:k< ↑f.eC
           . obtain ⟨x, hx⟩:∃x,f.eC[k]?=K x:=⟨_,an cW⟩;obtain⟨d,aU⟩:∃s,j[k]?=K s:=⟨_,an (by have:=au.1;omega)⟩;obtain⟨bI,bY,ah,ae,e',j0,aT,bJ⟩:=C9 HI.2.rs rfl aU;simp only[kI,mE,mV]at e';obtain⟨rfl,rfl⟩:=e';obtain⟨gi,oi,ci,ei,i0,i1,i2,i3⟩:=M6 HI.2.rf.2.2 hx;simp only[i8,lB]at ei;obtain⟨rfl,rfl⟩:=ei;have L:Ae (f.eC[k]?=K x/\j[k]?=K d):=⟨hx,aU⟩
             have HR:Ae (Rd wr 1 (Z ah d ae) d (Ad As d)/\ ↑d<=ae/\d.length<=1048576):=⟨aT,bJ,H.2.2.2.2.2.2 d (i7 aU)⟩
             have d8:(k:Int)<(f.eC:Int):=oM;have cZ:f.eC.length<=1024:=HF.2.2.1.jc;(have d9:(k:Int)<(j:Int):=by have:=au.1;omega);clear hx aU aT bJ;have y3:=HI.2.fb.cell 3;simp only[kB,i9,kC]at y3;go_wp2_with fail;refine(FF (Z ah d ae) d wr HR.2.2 HR.1).mono ?_;rintro e u9 ⟨rfl,rfl⟩;cases hty:d.all Ec with
             | false=>(have HN:Ae (¬BR p q j):= λe=>by obtain⟨f',m,_,h5⟩:=e.2.2;rw[kA,HF.1]at m;obtain rfl:=kH m;have h6:=h5.all k x d L.1 L.2;exact absurd (hty.symm.trans h6.types) dC);exact QE
             | true =>
               have bG:Ae (d.all Ec=true):=hty;by_cases cG:64<d.length
               . have cH:(64:Int)<(d:Int):=oM;(have HN:Ae (¬BR p q j):= λe=>by obtain⟨f',m,_,h5⟩:=e.2.2;rw[kA,HF.1]at m;obtain rfl:=kH m;have h6:=h5.all k x d L.1 L.2;have:=h6.jn;omega);exact QE
               have cH:¬(64:Int)<(d:Int):=oM;(have bq:Ae (d.length<=64):=by show d.length<=64;omega);clear cG hty;(go_upto_region 13 with fail);(have E6:Ae (R8 w (Ac u9 (Ak #[x.op,x.a,x.b,x.c] 72)) ⟨Z A p.bO C,Z z p.ej l,Z (K ⟨gk,ok,M⟩) p.bW f3,Z D p.eD E⟩ ⟨Z Q f.gw R,Z S f.gG T,Z (K ⟨gi,oi,M⟩) f.eC P⟩ f N (Z (K ⟨V,oo,M⟩) j hc) j u9 x ⟨V,oo+k,M⟩ (Z ah d ae) d):=by have b3:=Aq u9 (Ak #[x.op,x.a,x.b,x.c] 72);exact⟨HI.2.a7 b3,AC.new _ _ _,Bh b3 j0,HR.1.a7 b3 lR⟩);have bx:Ae (∀(i:Nat) x d,i<k->f.eC[i]?=K x->j[i]?=K d->CU p f j i x d):=HI.1;have aX:Ae (↑d<=ae/\d.length<=1048576):=HR.2
               clear HI HR j0 i0 i1 i2 i3 y3;generalize u9.heap.size=X at E6⊢;refine Ax (λu=>Ae (R8 w u ⟨Z A p.bO C,Z z p.ej l,Z (K ⟨gk,ok,M⟩) p.bW f3,Z D p.eD E⟩ ⟨Z Q f.gw R,Z S f.gG T,Z (K ⟨gi,oi,M⟩) f.eC P⟩ f N (Z (K ⟨V,oo,M⟩) j hc) j X x ⟨V,oo+k,M⟩ (Z ah d ae) d)) E6 ?_;rintro U G;clear E6;have x0:=G.xb.cell 0;simp only[kB,i9]at x0;by_cases aG:x.op=29
               . (have cE:(x.op==29)=true:=by simpa using aG);have aq:Ae (x.op=29):=aG;clear aG;(go_upto_region 14 with fail);have D1:Ae (Ah U U U):=kS _ _;have D0:Ae (Ah U U U.drew):=At _;have KS:=(G.a7 (At _)).jH;go_region_held3 (λF=>F.cell? ⟨V,oo+k,M⟩=K (Z ah d ae)/\F.cell? N=K (Z Q f.gw R)/\F.cell? ⟨N,1,M⟩=K ↑f.gy/\F.cell? ⟨N,2,M⟩=K (Z S f.gG T)/\F.cell? ⟨N,3,M⟩=K (Z (K ⟨gi,oi,M⟩) f.eC P)) (first|with_reducible exact KS|exact(G.a7 (by(repeat' (first|with_reducible exact Hid.o (by assumption)|(with_reducible refine Ar ?_ lR (Aq _ _))|(with_reducible refine Ar ?_ lR (At _)))))).jH) (first
                  |(go_at_call 64;refine(Of ⟨Z Q f.gw R,Z S f.gG T,Z (K ⟨gi,oi,M⟩) f.eC P⟩ f _ ?_).mono ?_;exact G.sp.rf.a7 (B:=U) (by(repeat' (first|with_reducible exact Hid.o (by assumption)|(with_reducible refine Ar ?_ lR (Aq _ _))|(with_reducible refine Ar ?_ lR (At _))))) lR;rintro e l ⟨s5,rfl,bi,aJ⟩;obtain⟨a5,c5,rfl⟩:=bi.dk;have B3:Ae (Ah U U l):=Ar (by(repeat' (first|with_reducible exact Hid.o (by assumption)|(with_reducible refine Ar ?_ lR (Aq _ _))|(with_reducible refine Ar ?_ lR (At _))))) lR aJ;have O3:Ae (Rd l 1 (Z a5 (A7 f).length c5) (A7 f).length (Ad As (A7 f))):=bi;have KS:=(G.a7 B3).jH;clear bi aJ)
                  |(go_at_call 63;have hh:=B3;clear hh;refine(Fu (Z ah d ae) (Z a5 (A7 f).length c5) d (A7 f) _ aX.2 (RP f) ?_ ?_).mono ?_;exact G.rd.a7 (B:=U) (by(repeat' (first|with_reducible exact Hid.o (by assumption)|(with_reducible refine Ar ?_ lR (Aq _ _))|(with_reducible refine Ar ?_ lR (At _))))) lR;exact O3;rintro e k4 ⟨⟨O,rfl,aw⟩,cY⟩;have aj:Ae (O=true↔d=A7 f):=aw;obtain⟨m4,rfl⟩:=cY;have B4:Ae (Ah U U (l.drewN m4)):=B3.trans (Az _ _ _);clear aw))
                 all_goals
                  clear KS D0 D1;cases O
                  . (have HN:Ae (¬BR p q j):= λe=>by obtain⟨f',m,_,h5⟩:=e.2.2;rw[kA,HF.1]at m;obtain rfl:=kH m;have h6:=h5.all k x d L.1 L.2;have:=aj.2 (h6.ret aq);cases this);go_wp2_with fail;go_ret;exact⟨⟨false,rfl, λe=>(by cases e), λe=>absurd e HN.o⟩,(G.a7 B4).sp.e8⟩
                  . have HK:Ae (∀(i:Nat) x d,i<k+1->f.eC[i]?=K x->j[i]?=K d->CU p f j i x d):= λi y t hi hy ht=>by
                     by_cases e:i=k
                     . subst e;rw[L.1]at hy;rw[L.2]at ht;obtain rfl:=kH hy;obtain rfl:=kH ht;exact⟨bG,bq, λ_=>aj.1 rfl, λe=>absurd aq.o e, λe=>absurd aq.o e, λe=>by have h7:=aq.o;unfold Ip at e;omega⟩
                     exact bx.o i y t oM hy ht
                    have E8:Ae _:=(G.a7 B4).sp;clear G;go_wp2;go_roundw;(case rel=>exact⟨k+1,oM,by go_num,HK,E8⟩);exact oI
               (have cE:(x.op==29)=false:=by simpa using aG);have aq:Ae (¬x.op=29):=aG;clear aG;(go_upto_region 16 with fail);have D1:Ae (Ah U U U):=kS _ _;have D0:Ae (Ah U U U.drew):=At _;have KS:=(G.a7 (At _)).args;have aR:Ae (AS p f x/\x.wf):=⟨aI.iB HF.1 L.1,HF.2.2.2.eC x (i7 L.1)⟩
               have bu:Ae ((∀t∈AF p f x,t=0->0<(AG p f x).length)/\(AF p f x).length<=2):=Lh aI aR.1
               go_region_held3 (λF=>F.cell? ⟨V,oo+k,M⟩=K (Z ah d ae)/\F.cell? N=K (Z Q f.gw R)/\F.cell? ⟨N,1,M⟩=K ↑f.gy/\F.cell? ⟨N,2,M⟩=K (Z S f.gG T)/\F.cell? ⟨N,3,M⟩=K (Z (K ⟨gi,oi,M⟩) f.eC P)/\F.cell? w=K (Z A p.bO C)/\F.cell? ⟨w,1,M⟩=K (Z z p.ej l)/\F.cell? ⟨w,2,M⟩=K (Z (K ⟨gk,ok,M⟩) p.bW f3)/\F.cell? ⟨w,3,M⟩=K (Z D p.eD E)/\F.cell? X=K ↑x.op/\F.cell? ⟨X,1,M⟩=K ↑x.a/\F.cell? ⟨X,2,M⟩=K ↑x.b/\F.cell? ⟨X,3,M⟩=K ↑x.c) (first|with_reducible exact KS|exact(G.a7 (by(repeat' (first|with_reducible exact Hid.o (by assumption)|(with_reducible refine Ar ?_ lR (Aq _ _))|(with_reducible refine Ar ?_ lR (At _)))))).args) (first
                |(go_at_call 39;refine(Lu ⟨Z A p.bO C,Z z p.ej l,Z (K ⟨gk,ok,M⟩) p.bW f3,Z D p.eD E⟩ p ⟨Z Q f.gw R,Z S f.gG T,Z (K ⟨gi,oi,M⟩) f.eC P⟩ f x (Z ah d ae) d _ H.1 aI.parts.1.1 HF.2.1 aR.2 ?_ ?_ aR.1 ?_ aX.2 (λa c e=>(by simp only[i8,lB]at e;obtain⟨_,rfl⟩:=e;exact aX.1)) bu.1 bu.2).mono ?_;exact H.2.2.2.1.a7 (G.sp.e8.trans ((show Ah U U _ from(by(repeat' (first|with_reducible exact Hid.o (by assumption)|(with_reducible refine Ar ?_ lR (Aq _ _))|(with_reducible refine Ar ?_ lR (At _)))))).mono G.sp.e8.size)) lR;exact G.sp.rf.a7 (B:=U) (by(repeat' (first|with_reducible exact Hid.o (by assumption)|(with_reducible refine Ar ?_ lR (Aq _ _))|(with_reducible refine Ar ?_ lR (At _))))) lR;exact G.rd.a7 (B:=U) (by(repeat' (first|with_reducible exact Hid.o (by assumption)|(with_reducible refine Ar ?_ lR (Aq _ _))|(with_reducible refine Ar ?_ lR (At _))))) lR;rintro e z3 ⟨V6,rfl,bR,aJ⟩;have B3:Ae (Ah U U z3):=Ar (by(repeat' (first|with_reducible exact Hid.o (by assumption)|(with_reducible refine Ar ?_ lR (Aq _ _))|(with_reducible refine Ar ?_ lR (At _))))) lR aJ;have O3:Ae (Cf p f x d=0->∃B,z3.ownsRow B 2 1 V6 (BO p f x d).length (Ad As (BO p f x d))):=(λe=>⟨_,bR e⟩);have KS:=(G.a7 B3).args;clear bR aJ))
               all_goals
                clear KS D0 D1 x0;by_cases aS:Cf p f x d=0
                . obtain ⟨B6,ho⟩:=O3.o aS;obtain⟨oa,oc,rfl⟩:=AO ho;have br:Ae (Cf p f x d=0):=aS;have E8:Ae (R8 w z3 ⟨Z A p.bO C,Z z p.ej l,Z (K ⟨gk,ok,M⟩) p.bW f3,Z D p.eD E⟩ ⟨Z Q f.gw R,Z S f.gG T,Z (K ⟨gi,oi,M⟩) f.eC P⟩ f N (Z (K ⟨V,oo,M⟩) j hc) j X x ⟨V,oo+k,M⟩ (Z ah d ae) d/\Rd z3 1 (Z oa (BO p f x d).length oc) (BO p f x d).length (Ad As (BO p f x d))):=⟨G.a7 B3,Rd.gM ho⟩
                  have bB:Ae ((BO p f x d).length<=1048576):=by
                   have h8:=br.o;unfold Cf at h8;split at h8
                   . cases h8
                   split at h8
                   . cases h8
                   split at h8
                   . cases h8
                   show(BO p f x d).length<=1048576;omega
                  clear ho G O3 B3;(go_upto_region 19 with fail);clear aS;have x0:=E8.1.xb.cell 0;simp only[kB,i9]at x0;go_cut [119] (λs wx=>∃O:Bool,s=An O/\Ae (O=true↔¬(x.op≠25->j[k+1]?=K (BO p f x d)))/\Ae (R8 w wx ⟨Z A p.bO C,Z z p.ej l,Z (K ⟨gk,ok,M⟩) p.bW f3,Z D p.eD E⟩ ⟨Z Q f.gw R,Z S f.gG T,Z (K ⟨gi,oi,M⟩) f.eC P⟩ f N (Z (K ⟨V,oo,M⟩) j hc) j X x ⟨V,oo+k,M⟩ (Z ah d ae) d/\Rd wx 1 (Z oa (BO p f x d).length oc) (BO p f x d).length (Ad As (BO p f x d))))
                  case first=>
                   by_cases aF:x.op=25
                   . (have cA:(x.op != 25)=false:=by simpa using aF);have aP:Ae (x.op=25):=aF;clear aF;go_wp2_with fail;go_meet;exact⟨false,rfl,⟨λe=>(by cases e), λe=>absurd (λe2=>absurd aP.o e2) e⟩,E8⟩
                   (have cA:(x.op != 25)=true:=by simpa using aF);have aP:Ae (¬x.op=25):=aF;clear aF;by_cases bL:k+1= ↑f.eC
                   . have cU:((k:Int)+1==(f.eC:Int))=true:=oT;have cg:Ae (j[k+1]?=M):=kW (by have:=au.1;omega);clear bL;go_wp2_with fail;go_meet;exact⟨true,rfl,⟨λ_ e=>(by have h9:=e aP;rw[cg]at h9;cases h9), λ_=>rfl⟩,E8⟩
                   have cU:((k:Int)+1==(f.eC:Int))=false:=oT;obtain⟨I,ao⟩:∃s,j[k+1]?=K s:=⟨_,an (by have:=au.1;omega)⟩;obtain⟨bI,bY,sb,sd,e',j1,aM,aZ⟩:=C9 E8.1.sp.rs rfl ao;simp only[kI,mE,mV]at e';obtain⟨rfl,rfl⟩:=e';(have cT:(k:Int)+1<(j:Int):=by have:=au.1;omega);have am:Ae (j[k+1]?=K I/\I.length<=1048576/\Rd z3 1 (Z sb I sd) I (Ad As I)):=⟨ao,H.2.2.2.2.2.2 I (i7 ao),aM⟩
                   clear ao aM aZ bL;go_wp2_with fail;refine(Fu (Z sb I sd) (Z oa (BO p f x d).length oc) I (BO p f x d) z3 am.2.1 bB am.2.2 E8.2).mono ?_;rintro e z4 ⟨⟨O,rfl,aw⟩,m4,rfl⟩;have aH:Ae (O=true↔I=BO p f x d):=aw;have b4:=Az z3 z3 m4;have E9:Ae (R8 w (z3.drewN m4) ⟨Z A p.bO C,Z z p.ej l,Z (K ⟨gk,ok,M⟩) p.bW f3,Z D p.eD E⟩ ⟨Z Q f.gw R,Z S f.gG T,Z (K ⟨gi,oi,M⟩) f.eC P⟩ f N (Z (K ⟨V,oo,M⟩) j hc) j X x ⟨V,oo+k,M⟩ (Z ah d ae) d/\Rd (z3.drewN m4) 1 (Z oa (BO p f x d).length oc) (BO p f x d).length (Ad As (BO p f x d))):=⟨E8.1.a7 b4,E8.2.a7 b4 lR⟩
                   clear aw b4;cases O
                   . go_wp2_with fail;go_meet;exact⟨true,rfl,⟨λ_ e=>(by have h9:=e aP;rw[am.1]at h9;have:=aH.2 (kH h9);cases this), λ_=>rfl⟩,E9⟩
                   go_wp2_with fail;go_meet;exact⟨false,rfl,⟨λe=>(by cases e), λe=>absurd (λ_=>by rw[am.1,aH.1 (by first|rfl|trivial)]) e⟩,E9⟩
                  case rest=>
                   obtain⟨O,rfl,aj,E9⟩:=hcut;clear E8 x0;cases O
                   . (have cu:Ae (x.op≠25->j[k+1]?=K (BO p f x d)):=lW λe=>by have:=aj.2 e;cases this);clear aj;obtain⟨z5,hN⟩:∃W,W=wc:=⟨_,rfl⟩;subst hN;(go_upto_region 21 with fail);have x0:=E9.1.xb.cell 0;have x3:=E9.1.xb.cell 3;simp only[kB,i9,kC]at x0 x3;go_cut [132] (λs wx=>∃O:Bool,s=An O/\Ae (O=true↔¬(Ip x.op->j[x.c.toNat]?=K (BO p f x d)))/\Ae (R8 w wx ⟨Z A p.bO C,Z z p.ej l,Z (K ⟨gk,ok,M⟩) p.bW f3,Z D p.eD E⟩ ⟨Z Q f.gw R,Z S f.gG T,Z (K ⟨gi,oi,M⟩) f.eC P⟩ f N (Z (K ⟨V,oo,M⟩) j hc) j X x ⟨V,oo+k,M⟩ (Z ah d ae) d/\Rd wx 1 (Z oa (BO p f x d).length oc) (BO p f x d).length (Ad As (BO p f x d))))
                     case first=>
                      go_wp2_with fail;refine(Ci x z5).mono ?_;rintro e z6 ⟨rfl,rfl⟩;cases hgb:A6 x with
                      | false=>(have aQ:Ae (¬Ip x.op):= λe=>by have:=Hx.2 e;rw[hgb]at this;cases this);go_wp2_with fail;go_meet;exact⟨false,rfl,⟨λe=>(by cases e), λe=>absurd (λe2=>absurd e2 aQ.o) e⟩,E9⟩
                      | true=>
                        have aQ:Ae (Ip x.op):=Hx.1 hgb;obtain⟨aA,cJ⟩:=aR.1.target aQ;obtain⟨cn,aY⟩:=kX aA;obtain⟨I,ao⟩:∃s,j[cn]?=K s:=⟨_,an (by have:=au.1;omega)⟩;obtain⟨bI,bY,sb,sd,e',j1,aM,aZ⟩:=C9 E9.1.sp.rs rfl ao;simp only[kI,mE,mV]at e';obtain⟨rfl,rfl⟩:=e';(have cT:(cn:Int)<(j:Int):=by have:=au.1;omega);have bt:Ae (x.c=(cn:Int)):=aY;have am:Ae (j[cn]?=K I/\I.length<=1048576/\Rd z6 1 (Z sb I sd) I (Ad As I)):=⟨ao,H.2.2.2.2.2.2 I (i7 ao),aM⟩
                        rw[aY]at x3;clear ao aM aZ aY aA cJ;go_wp2_with fail;refine(Fu (Z sb I sd) (Z oa (BO p f x d).length oc) I (BO p f x d) z6 am.2.1 bB am.2.2 E9.2).mono ?_;rintro e z4 ⟨⟨O,rfl,aw⟩,m4,rfl⟩;have aH:Ae (O=true↔I=BO p f x d):=aw;have b4:=Az z6 z6 m4;have aE:Ae (R8 w (z6.drewN m4) ⟨Z A p.bO C,Z z p.ej l,Z (K ⟨gk,ok,M⟩) p.bW f3,Z D p.eD E⟩ ⟨Z Q f.gw R,Z S f.gG T,Z (K ⟨gi,oi,M⟩) f.eC P⟩ f N (Z (K ⟨V,oo,M⟩) j hc) j X x ⟨V,oo+k,M⟩ (Z ah d ae) d/\Rd (z6.drewN m4) 1 (Z oa (BO p f x d).length oc) (BO p f x d).length (Ad As (BO p f x d))):=⟨E9.1.a7 b4,E9.2.a7 b4 lR⟩
                        clear aw b4;cases O
                        . go_wp2_with fail;go_meet;exact⟨true,rfl,⟨λ_ e=>(by have h9:=e aQ;rw[bt,kA,am.1]at h9;have:=aH.2 (kH h9);cases this), λ_=>rfl⟩,aE⟩
                        go_wp2_with fail;go_meet;exact⟨false,rfl,⟨λe=>(by cases e), λe=>absurd (λ_=>by rw[bt,kA,am.1,aH.1 (by first|rfl|trivial)]) e⟩,aE⟩
                     case rest=>
                      obtain⟨O,rfl,aj,aE⟩:=hcut;clear E9 x0 x3;cases O
                      . (have cj:Ae (Ip x.op->j[x.c.toNat]?=K (BO p f x d)):=lW λe=>by have:=aj.2 e;cases this);have HK:Ae (∀(i:Nat) x d,i<k+1->f.eC[i]?=K x->j[i]?=K d->CU p f j i x d):= λi y t hi hy ht=>by
                         by_cases e:i=k
                         . subst e;rw[L.1]at hy;rw[L.2]at ht;obtain rfl:=kH hy;obtain rfl:=kH ht;exact⟨bG,bq, λe=>absurd e aq.o, λ_=>br.o, λ_ e=>cu.o e,cj⟩
                         exact bx.o i y t oM hy ht
                        have bZ:Ae _:=aE.1.sp;clear aE aj;go_wp2;go_roundw;(case rel=>exact⟨k+1,oM,by go_num,HK,bZ⟩);exact oI
                      (have HN:Ae (¬BR p q j):= λe=>by obtain⟨f',m,_,h5⟩:=e.2.2;rw[kA,HF.1]at m;obtain rfl:=kH m;have h6:=h5.all k x d L.1 L.2;exact aj.1 rfl h6.named);go_wp2_with fail;go_ret;exact⟨⟨false,rfl, λe=>(by cases e), λe=>absurd e HN.o⟩,aE.1.sp.e8⟩
                   (have HN:Ae (¬BR p q j):= λe=>by obtain⟨f',m,_,h5⟩:=e.2.2;rw[kA,HF.1]at m;obtain rfl:=kH m;have h6:=h5.all k x d L.1 L.2;exact aj.1 rfl (λe=>h6.next aq e));go_wp2_with fail;go_ret;exact⟨⟨false,rfl, λe=>(by cases e), λe=>absurd e HN.o⟩,E9.1.sp.e8⟩
                (have HN:Ae (¬BR p q j):= λe=>by obtain⟨f',m,_,h5⟩:=e.2.2;rw[kA,HF.1]at m;obtain rfl:=kH m;have h6:=h5.all k x d L.1 L.2;exact aS (h6.eC aq));go_wp2_with fail;go_ret;exact⟨⟨false,rfl, λe=>(by cases e), λe=>absurd e HN.o⟩,(G.a7 B3).sp.e8⟩
           obtain rfl:k=f.eC.length:=oM;have HY:Ae (BR p q j):=⟨aI,oM,f,by rw[kA];exact HF.1,ce,⟨au.1,HZ, λi x d hx hs=>HI.1 i x d (i6.1 hx).1 hx hs⟩⟩;go_wp2_with fail;go_ret;exact⟨⟨true,rfl, λ_=>HY.o, λ_=>rfl⟩,HI.2.e8⟩
         (have HN:Ae (¬BR p q j):= λe=>by obtain⟨f',m,_,h5⟩:=e.2.2;have h6:=h5.gH;rw[bF]at h6;exact hz (by rw[kH h6];rfl));(have bV:((aW:Int) != 0)=true:=by simp;exact λe=>hz (by rw[e];rfl));exact L5
       (have HN:Ae (¬BR p q j):= λe=>by obtain⟨f',m,_,h5⟩:=e.2.2;rw[kA,HF.1]at m;obtain rfl:=kH m;exact bf h5.len);have bQ:((j:Int) != (f.eC:Int))=true:=oT;exact L5
     (have HN:Ae (¬BR p q j):= λe=>by obtain⟨f',m,⟨r',h6,h7⟩,_⟩:=e.2.2;rw[kA,HF.1]at m;obtain rfl:=kH m;exact aA (by rw[b7.one h6];exact h7));(have cI:(r.eC != 0)=true:=by simpa using aA);exact L5
 have HN:Ae (¬BR p fi j):= λe=>bg (hn.one e.1)
 have db:(n != 0)=true:=by simpa using bg
 clear hn;exact L7
theorem KL{α:Type}[DecidableEq α]:∀{a b:List α},a.Nodup->(∀x∈a,x∈b)->a.length<= ↑b
 |[],_,_,_=>mz _
 | x::a,b,h,s=>by obtain⟨f,g⟩:=List.nodup_cons.1 h;have c:=s x (lV ..);(have:=KL (a:=a) (b:=b.erase x) g λy d=>(List.mem_erase_of_ne (λe=>f (by rw[<-e];exact d))).2 (s y (lU _ d)));rw[List.length_erase_of_mem c]at this;have:=List.length_pos_of_mem c;rw[lX];omega
theorem V8{α:Type}[DecidableEq α]{a b:List α}(h:a.Nodup)(s:∀x∈a,x∈b)(e:b.length<= ↑a):∀x∈b,x∈a:= λx f=>lW λd=>by
 have:=KL (a:=x::a) (b:=b) (List.nodup_cons.2 ⟨d,h⟩) λy c=>by
  rcases kY.1 c with rfl|c
  . exact f
  exact s y c
 rw[lX]at this;omega
theorem P7{a b c:MT}(h:Ej a b)(d:Ej b c):Ej a c:=by unfold Ej at*;omega
theorem P6:∀{cs:List MT},(∀(j:Nat) c d,cs[j]?=K d->cs[j+1]?=K c->Ej d c)->cs.Pairwise Ej
 |[],_=>.nil
 |[_],_=>oQ _ _
 | d::c::cs,h=>by
   (have g:=P6 (cs:=c::cs) λj a b i k=>h (j+1) a b (by simpa using i) (by simpa using k));have f:Ej d c:=h 0 c d rfl rfl;refine lg.2 ⟨λx e=> ?_,g⟩;rcases kY.1 e with rfl|e
   . exact f
   exact P7 f ((lg.1 g).1 x e)
theorem Bi.pw{p:MP}(h:Bi p):p.eD.Pairwise Ej:=P6 λj c d b a=>(h.2 (j+1) (i6.1 a).1 c a).2 j d rfl b
theorem Pc{p:MP}(h:Bi p)(q:Nat):((p.eD.filter λt=>decide (t.func=(q:Int))).map MT.head).Nodup:=by refine mu.2 (((h.pw.filter _).imp_of_mem ?_));intro a b c d f e;have g:=nB (mO.1 c).2;have i:=nB (mO.1 d).2;unfold Ej at f;omega
theorem Ji(E:Nat->List Nat)(D L:Nat->Nat->Bool)(n:Nat):∀j,(Bt E D L n j).Pairwise (λa b=>a.head<b.head)/\∀l∈Bt E D L n j,l.head<(j:Int)
 |0=>⟨.nil, λl c=>by cases c⟩
 | j +1=>by
   obtain⟨f,d⟩:=Ji E D L n j;rw[DO];by_cases e:AH E D n j=[]
   . rw[kZ e,m6];exact⟨f, λl c=>by have:=d l c;omega⟩
   rw[kP e];refine⟨mq.2 ⟨f,oQ _ _, λa g b h=> ?_⟩, λl c=> ?_⟩
   . rw[ld.1 h];exact d a g
   rcases kO.1 c with c|c
   . have:=d l c;omega
   rw[ld.1 c];show(j:Int)<_;omega
def IQ(r:DC)(l:ML):Int:=((r.a8[l.head.toNat]?).map MB.gH).getD (-1)
theorem Ol{xs:List MI}{r:DC}(h:Bg xs r)(i:r.eC=0)(f:∀l∈r.gE,∃m,r.a8[l.head.toNat]?=K m):(r.gE.map (IQ r)).Nodup:=by
 cases h with
 | good g1 g2 g3 g4 g5 g6 g7 g8 g9=>refine mu.2 ((Ji _ _ _ _ _).1.imp_of_mem ?_);intro a b d j t e;obtain⟨m,c⟩:=f a d;obtain⟨u,g⟩:=f b j;(have s:0<=a.head:=by obtain⟨⟨k,e,_⟩,_⟩:=Lz lR d;omega);unfold IQ at e;rw[c,g]at e;simp only[nI,nL]at e;obtain⟨x,y,n,p,q,_⟩:=Ki c;exact SR c g oM ⟨oM,oM⟩
 |_=>simp[DY]at i
theorem Qb{p:MP}{q:Nat}{r:DC}(G:A4 p 0)(A:Bg f.eC r)(x:r.eC=0)(B:∀l∈r.gE,AP p (q:Int) f.eC r.a8 l 0):(p.eD.filter λt=>decide (t.func=(q:Int))).length= ↑r.gE↔∀t∈p.eD,¬OI q r t:=by
 have n:∀l∈r.gE,∃m c,r.a8[l.head.toNat]?=K m/\c∈p.eD/\c.func=(q:Int)/\c.head=m.gH:= λl i=>by
  obtain⟨m,j,⟨_,a⟩|⟨t,g,a,_⟩⟩:=B l i
  . cases a
  unfold Ce at a;have d:=List.find?_some a;simp only[mR,mB]at d;exact⟨m,t,j,List.mem_of_find?_eq_some a,d.1,d.2⟩
 have F:=Pc G.parts.2.2.2.2 q;have v:=Ol A x λl i=>by obtain⟨m,_,j,_⟩:=n l i;exact⟨m,j⟩
 have w:∀z∈r.gE.map (IQ r),z∈(p.eD.filter λt=>decide (t.func=(q:Int))).map MT.head:= λz u=>by obtain⟨l,i,rfl⟩:=lA.1 u;obtain⟨m,c,j,a,d,y⟩:=n l i;refine lA.2 ⟨c,mO.2 ⟨a,decide_eq_true d⟩,?_⟩;unfold IQ;rw[j,y];rfl
 have C:=KL v w;rw[lC,lC]at C;constructor
 . rintro e t s ⟨j,a⟩;have:=V8 v w (by rw[lC,lC];omega) t.head (lA.2 ⟨t,mO.2 ⟨s,decide_eq_true j⟩,rfl⟩);obtain⟨l,i,k⟩:=lA.1 this;obtain⟨m,c,d,_⟩:=n l i;unfold IQ at k;rw[d]at k;exact a l i m d k
 intro h;have:=KL F (b:=r.gE.map (IQ r)) λz u=>by
  obtain⟨t,s,rfl⟩:=lA.1 u;obtain⟨j,a⟩:=mO.1 s;have d:=h t j;refine lW λE=>d ⟨nB a, λl i m D e=>E (lA.2 ⟨l,i,?_⟩)⟩
  unfold IQ;rw[D,<-e];rfl
 rw[lC,lC]at this;omega
def Kv(a:List (List Int)):Int:=a.foldl (λm s=>max m (s.length:Int)) 0
theorem Uc(a:List (List Int))(s:List Int):Kv (a++[s])=max (Kv a) (s.length:Int):=by simp[Kv]
theorem WY{b:List (List Int)}:Kv b<=z↔0<=z/\∀s∈b,(s:Int)<=z:=by
 have d:∀(b:List (List Int)) (m:Int),b.foldl (λm s=>max m (s.length:Int)) m<=z↔m<=z/\∀s∈b,(s.length:Int)<=z:=by
  intro b;induction b with
  |nil=>intro m;simp
  | cons a b c=>intro m;rw[List.foldl_cons,c];simp only[kY,forall_eq_or_imp,Int.max_le,and_assoc]
 exact d b 0
def BM(p:MP)(S:List (List (List Int)))(q:Nat)(y:Me):Prop:=∃a,S[q]?=K a/\((¬BR p (q:Int) a/\y=⟨6,0,0,[]⟩)\/(BR p (q:Int) a/\y=⟨0,0,Kv a,a⟩))
theorem BM.one{p:MP}{S:List (List (List Int))}{q:Nat}{y d:Me}(h:BM p S q y)(e:BM p S q d):y=d:=by
 obtain⟨j,f,g⟩:=h;obtain⟨k,c,i⟩:=e;rw[f]at c;obtain rfl:=kH c;rcases g with⟨a,rfl⟩|⟨a,rfl⟩<;>rcases i with⟨b,rfl⟩|⟨b,rfl⟩
 . rfl
 . exact absurd b a
 . exact absurd a b
 rfl
def Mw(p:MP)(f:MF)(b:List (List Int))(D:List Int)(k:Nat)(x:MI):Int:=
 let s:=(b[k]?).getD []
 let a:Int:=if x.op≠29 then max (s:Int) ((BO p f x s).length:Int)else(s:Int)
 if x.op=28 then max a (JE p b D k x)else a
def Ig(p:MP)(f:MF)(a:List (List Int))(D:List Int):Nat->Int
 |0=>0
 |k+1=>match f.eC[k]? with|some x=>max (Ig p f a D k) (Mw p f a D k x)|none=>Ig p f a D k
theorem N4{p:MP}{d:List (List Int)}{D:List Int}:∀k,Ig p f d D k<=z↔0<=z/\∀(j:Nat) x,j<k->f.eC[j]?=K x->Mw p f d D j x<=z
 |0=>⟨λh=>⟨h, λj x a=>absurd a (Nat.not_lt_zero _)⟩, λh=>h.1⟩
 | k +1=>by
   unfold Ig;cases e:f.eC[k]? with
   | none=>
     simp only[];rw[N4 k];refine⟨λh=>⟨h.1, λj x a b=> ?_⟩, λh=>⟨h.1, λj x a b=>h.2 j x (by omega) b⟩⟩;rcases Nat.lt_succ_iff_lt_or_eq.1 a with a|rfl
     . exact h.2 j x a b
     rw[e]at b;cases b
   | some x=>
     simp only[];rw[Int.max_le,N4 k];refine⟨λh=>⟨h.1.1, λj y a c=> ?_⟩, λh=>⟨⟨h.1, λj y a c=>h.2 j y (by omega) c⟩,h.2 k x (by omega) e⟩⟩;rcases Nat.lt_succ_iff_lt_or_eq.1 a with a|rfl
     . exact h.1.2 j y a c
     rw[e]at c;cases c;exact h.2
theorem KG{p:MP}{xs:List MI}{g:List (List Int)}{D:List Int}{f:Int}:∀k,GN p xs g D f k<=z↔f<=z/\∀(j:Nat) x,j<k->xs[j]?=K x->x.op=28->JE p g D j x<=z
 |0=>⟨λh=>⟨h, λj x a=>absurd a (Nat.not_lt_zero _)⟩, λh=>h.1⟩
 | k + 1=>by
   unfold GN;cases e:xs[k]? with
   | none=>
     simp only[];rw[KG k];refine⟨λh=>⟨h.1, λj x a c=> ?_⟩, λh=>⟨h.1, λj x a c=>h.2 j x (by omega) c⟩⟩;rcases Nat.lt_succ_iff_lt_or_eq.1 a with a|rfl
     . exact h.2 j x a c
     rw[e]at c;cases c
   | some x=>
     simp only[];by_cases o:x.op=28
     . rw[kZ o,Int.max_le,KG k];refine⟨λh=>⟨h.1.1, λj y a b d=> ?_⟩, λh=>⟨⟨h.1, λj y a b=>h.2 j y (by omega) b⟩,h.2 k x (by omega) e o⟩⟩;rcases Nat.lt_succ_iff_lt_or_eq.1 a with a|rfl
       . exact h.1.2 j y a b d
       rw[e]at b;cases b;exact h.2
     rw[kP o,KG k];refine⟨λh=>⟨h.1, λj y a b d=> ?_⟩, λh=>⟨h.1, λj y a b=>h.2 j y (by omega) b⟩⟩;rcases Nat.lt_succ_iff_lt_or_eq.1 a with a|rfl
     . exact h.2 j y a b d
     rw[e]at b;cases b;exact absurd d o
theorem Rf{p:MP}{c:List (List Int)}{D:List Int}{k:Nat}:Mw p f c D k x<=z↔((((c[k]?).getD []).length:Int)<=z/\(x.op≠29->((BO p f x ((c[k]?).getD [])).length:Int)<=z))/\(x.op=28->JE p c D k x<=z):=by
 unfold Mw;by_cases a:x.op=28
 . have b:x.op≠29:=oM;simp only[kZ a,kZ b,Int.max_le];simp[a]
 by_cases b:x.op≠29
 . simp only[kP a,kZ b,Int.max_le];simp[a,b]
 simp only[kP a,kP b];simp[a,b]
theorem Vv{p:MP}{a:List (List Int)}{D:List Int}(h:D8 p f a):Ig p f a D f.eC=GL p f ⟨0,0,Kv a,a⟩ D:=by
 have l:∀z,Ig p f a D f.eC<=z↔GL p f ⟨0,0,Kv a,a⟩ D<=z:= λz=>by
  unfold GL;rw[N4,KG,WY];constructor
  . rintro⟨g,b⟩;refine⟨⟨g, λs e=> ?_⟩, λj x c i q=>(Rf.1 (b j x c i)).2 q⟩;obtain⟨j,c⟩:=lH e;have d:=(i6.1 c).1;rw[h.len]at d;have:=(Rf.1 (b j _ d (an d))).1.1;rw[c]at this;exact this
  rintro⟨⟨g,b⟩,n⟩;refine⟨g, λj x c i=>Rf.2 ⟨?_,n j x c i⟩⟩;have d:j<a.length:=by rw[h.len];exact c
  have e:=an d;have H:=h.all j x _ i e;rw[e];refine⟨b _ (i7 e), λm=> ?_⟩;by_cases k:x.op=25
  . exact b _ (i7 (H.named (.inl k)))
  exact b _ (i7 (H.next m k))
 have g:=(l _).1 (Int.le_refl _);have b:=(l _).2 (Int.le_refl _);omega
theorem Tg{p:MP}{q:List (List Int)}{k:Nat}{b:List Int}(v:EO x=true->k+1< ↑f.eC)(w:A6 x=true->0<=x.c):
 CU p f q k x b↔b.length<=64/\b.all Ec=true/\BQ p f x b=0/\∀z∈AY f.eC x k,q[z.toNat]?=K (Cy p f x b):=by
 have n:EO x=true↔x.op≠29/\x.op≠25:=by simp[EO];exact And.comm
 constructor
 . intro h;have u:BQ p f x b=0:=by
    unfold BQ;split
    . rename_i e;rw[kZ (h.ret e)]
    rename_i e;exact h.eC e
   refine⟨h.jn,h.types,u, λz a=> ?_⟩;unfold AY at a;rw[kO]at a;rcases a with a|a
   . split at a
     . rename_i e;simp only[ld]at a;subst a;have g:=n.1 e.1;rw[kA,h.next g.1 g.2];unfold Cy;rw[kP g.1]
     cases a
   split at a
   . rename_i e;simp only[ld]at a;subst a;have i:=Hx.1 e.1;rw[h.named i];unfold Cy;rw[kP (by unfold Ip at i;omega)]
   cases a
 rintro⟨r,s,d,m⟩;refine⟨s,r, λe=> ?_, λe=> ?_, λe g=> ?_, λe=> ?_⟩
 . unfold BQ at d;rw[kZ e]at d;split at d
   . assumption
   cases d
 . unfold BQ at d;rw[kP e]at d;exact d
 . have j:=n.2 ⟨e,g⟩;have:=m ((k+1:Nat):Int) (by unfold AY;rw[kZ ⟨j,v j⟩];simp);rw[kA]at this;rw[this];unfold Cy;rw[kP e]
 have i:=Hx.2 e;have t:x.op≠29:=by unfold Ip at e;omega
 have j:Cy p f x b=BO p f x b:=by unfold Cy;rw[kP t]
 rw[<-j];by_cases l:EO x=true/\k+1< ↑f.eC/\x.c=((k+1:Nat):Int)
 . rw[l.2.2];exact m ((k+1:Nat):Int) (by unfold AY;rw[kZ ⟨l.1,l.2.1⟩];simp)
 exact m x.c (by unfold AY;rw[kO];exact .inr (by rw[kZ ⟨i,l⟩];simp))
theorem RK{xs:List MI}(d:Ei xs){e:Nat}(f:xs[e]?=K x):∀z∈AY xs x e,∃q:Nat,z=q/\q<xs.length:= λz a=>by
 unfold AY at a;rw[kO]at a;rcases a with a|a
 . split at a
   . rename_i e;simp only[ld]at a;exact⟨_,a,e.2⟩
   cases a
 split at a
 . rename_i b;simp only[ld]at a;have:=d e x f b.1;exact⟨x.c.toNat,oM,oM⟩
 cases a
theorem PR(xs:List MI)(x:MI)(e:Nat):(AY xs x e).length<=2:=by unfold AY;rw[kE];split<;>split<;>simp
structure SJ(w:Y)(v:VP)(p:MP)(g:VF)(f:MF)(shv:J)(shs:List (List Int)):Prop where
 ps:p.small
 pf:A4 p 0
 fs:f.small
 rp:Da w v p
 rf:DE w g f
 rs:EP w shv shs
 len:shs.length= ↑f.eC
 cl:f.eC.length<=1024
 pl:Ei f.eC
 rows:∀r∈shs,r.length<=1048576
 ok:∀x∈f.eC,AS p f x
theorem SJ.a7{w d:Y}{v:VP}{p:MP}{b:List (List Int)}(h:SJ w v p g f c b)(a:Ah w w d):SJ d v p g f c b:=⟨h.ps,h.pf,h.fs,h.rp.a7 a lR,h.rf.a7 a lR,h.rs.a7 a lR,h.len,h.cl,h.pl,h.rows,h.ok⟩
theorem LM (v:VP)(p:MP)(g:VF)(f:MF)(aI:J)(y:List (List Int))(k:Nat)(x:MI)(d:List Int)(w:Y)(h:SJ w v p g f aI y)(hx:f.eC[k]?=K x)(aj:y[k]?=K d)(aX:EO x=true->k+1< ↑f.eC):
 Ai Ap 238 #[Am #[v.r,v.k,v.f,v.t,g.p,f.gy,g.l,g.c],aI,k] w λe w'=>AJ e (CU p f y k x d)/\Ah w w w':=by
 have HQ:Ae (CU p f y k x d↔d.length<=64/\d.all Ec=true/\BQ p f x d=0/\∀z∈AY f.eC x k,y[z.toNat]?=K (Cy p f x d)):=Tg aX (λe=>(h.pl k x hx e).1)
 obtain⟨r1,r3,k1,k3,t1,t3,f1,f3,rfl⟩:=h.rp.sl;obtain⟨T,X,g4,g6,g7,O,rfl⟩:=EH h.rf;obtain⟨ha,hc,rfl⟩:∃a c,aI=Z a y c:=by obtain⟨_,_,h2,_⟩:=h.rs;exact h2.dk
 obtain⟨gg,oo,sa,sc,bx,j0,bi,bH⟩:=C9 h.rs rfl aj;subst bx;obtain⟨B,C,ci,ei,i0,i1,i2,i3⟩:=M6 h.rf.2.2 hx;simp only[i8,lB]at ei;obtain⟨rfl,rfl⟩:=ei;have H:Ae (SJ w ⟨Z r1 p.bO r3,Z k1 p.ej k3,Z f1 p.bW f3,Z t1 p.eD t3⟩ p ⟨Z T f.gw X,Z g4 f.gG g6,Z (K ⟨B,C,M⟩) f.eC O⟩ f (Z (K ⟨gg,oo,M⟩) y hc) y/\f.eC[k]?=K x/\y[k]?=K d/\Rd w 1 (Z sa d sc) d (Ad As d)/\d.length<=1048576):=⟨h,hx,aj,bi,h.rows d (i7 aj)⟩
 have bL:k<f.eC.length:=(i6.1 hx).1;have bP:k<y.length:=(i6.1 aj).1;have aH:f.eC.length<=1024:=h.cl;have aM:Ae (∀u,Ah w w u->u ⟨gg,oo+k,M⟩=K (Z sa d sc)/\u ⟨B,C+k*4,M⟩=K ↑x.op/\u ⟨B,C+k*4+1,M⟩=K ↑x.a/\u ⟨B,C+k*4+2,M⟩=K ↑x.b/\u ⟨B,C+k*4+3,M⟩=K ↑x.c):= λu hu=>⟨Bh hu j0,Bh hu i0,Bh hu i1,Bh hu i2,Bh hu i3⟩
 have bF:y.length<=1024:=by rw[h.len];exact aH
 clear h hx aj bi bH j0 i0 i1 i2 i3 aX;generalize p.bO.length=nr at H⊢;generalize p.ej.length=nk at H⊢;generalize p.bW.length=nf at H⊢;generalize p.eD.length=nt at H⊢;generalize f.gw.length=np at H⊢;generalize f.gG.length=nl at H⊢;generalize aY:f.eC.length=L at H bL aH⊢;have aP:Ae (↑f.eC=L):=aY
 clear aY;generalize aZ:y.length=ns at H bP bF⊢;have aQ:Ae (↑y=ns):=aZ
 clear aZ;have bV:(k:Int)<(L:Int):=oM;have bY:(k:Int)<(ns:Int):=oM;have E0:Ae (AC (Ac w (Ak #[Z r1 nr r3,Z k1 nk k3,Z f1 nf f3,Z t1 nt t3,Z T np X,f.gy,Z g4 nl g6,Z (K ⟨B,C,M⟩) L O] 158)) w #[Z r1 nr r3,Z k1 nk k3,Z f1 nf f3,Z t1 nt t3,Z T np X,f.gy,Z g4 nl g6,Z (K ⟨B,C,M⟩) L O] 158/\Ah w w (Ac w (Ak #[Z r1 nr r3,Z k1 nk k3,Z f1 nf f3,Z t1 nt t3,Z T np X,f.gy,Z g4 nl g6,Z (K ⟨B,C,M⟩) L O] 158))):=⟨AC.new _ _ _,Aq _ _⟩
 go_enter func238,ntmps238;go_upto_region 1 with fail
 refine Ax (λu=>Ae (AC u w #[Z r1 nr r3,Z k1 nk k3,Z f1 nf f3,Z t1 nt t3,Z T np X,f.gy,Z g4 nl g6,Z (K ⟨B,C,M⟩) L O] 158/\Ah w w u)) E0 ?_
 rintro U I;clear E0;obtain⟨j0,i0,i1,i2,i3⟩:=aM.o U I.2;by_cases aT:64<d.length
 . have bC:(64:Int)<(d:Int):=oM;(have R:Ae (¬CU p f y k x d):= λe=>by have:=(HQ.1 e).1;omega);clear aT;go_wp2_with fail;go_ret;exact⟨.no R,I.2⟩
 have bC:¬(64:Int)<(d:Int):=oM;have bq:Ae (d.length<=64):=by show d.length<=64;omega
 clear aT;go_wp2_with fail;refine(EQ (Z sa d sc) d U H.2.2.2.2 (H.2.2.2.1.a7 I.2 lR)).mono ?_;rintro e A ⟨rfl,rfl⟩;cases hty:d.all Ec with
 | false=>(have R:Ae (¬CU p f y k x d):= λe=>by have:=(HQ.1 e).2.1;rw[hty]at this;cases this);clear hty;go_wp2_with fail;go_ret;exact⟨.no R,I.2⟩
 | true=>
   have bu:Ae (d.all Ec=true):=hty;clear hty;go_wp2_with fail;refine(Qd (Z sa d sc) d A (H.2.2.2.1.a7 I.2 lR) H.2.2.2.2).mono ?_;rintro e Q ⟨rfl,⟨V,bo⟩,b1⟩;have ah:Ae (SJ A ⟨Z r1 nr r3,Z k1 nk k3,Z f1 nf f3,Z t1 nt t3⟩ p ⟨Z T np X,Z g4 nl g6,Z (K ⟨B,C,M⟩) L O⟩ f (Z (K ⟨gg,oo,M⟩) ns hc) y):=H.1.a7 I.2;have G:Ae (AC Q w #[Z r1 nr r3,Z k1 nk k3,Z f1 nf f3,Z t1 nt t3,Z T np X,f.gy,Z g4 nl g6,Z (K ⟨B,C,M⟩) L O] 158/\Ah w w Q/\Ah A A Q/\Gq Q A V d/\Ah w w A/\(w:Nat)< ↑A):=⟨I.1.a7 b1,Ar I.2 lR b1,b1,bo,I.2,I.1.lt⟩
   clear bo b1 I j0 i0 i1 i2 i3;(go_upto_region 4 with fail);have bD:=At Q;obtain⟨s0,F,s2,s3,s4,s5,s6,s7⟩:=Q0 (G.1.a7 bD);obtain⟨j0,i0,i1,i2,i3⟩:=aM.o Q.drew (Ar G.2.1 lR bD);clear bD;go_cut [38] (λs wx=>∃bb:Bool,s=An bb/\Ae (bb=true↔¬BQ p f x d=0)/\Ae (Yk Q.drew A V (BQ p f x d) (Cy p f x d) wx))
   case first=>
    go_region_with (go_at_call 240;refine(Q2 ⟨Z r1 nr r3,Z k1 nk k3,Z f1 nf f3,Z t1 nt t3⟩ p ⟨Z T np X,Z g4 nl g6,Z (K ⟨B,C,M⟩) L O⟩ f x A V d A Q.drew ah.ps ah.pf ah.fs ah.rp ah.rf (ah.ok x (i7 H.2.1)) lR (Ar G.2.2.1 lR (At _)) (G.2.2.2.1.a7 (At _)) H.2.2.2.2).mono ?_;rintro e u2 ⟨rfl,aW⟩;have ae:Ae (Yk Q.drew A V (BQ p f x d) (Cy p f x d) u2):=aW;clear aW);all_goals
     go_wp2_with fail;go_meet;exact⟨_,rfl,by show(_=true↔_);simp,ae⟩
   case rest=>
    obtain⟨bb,rfl,aE,ae⟩:=hcut;clear s0 F s2 s3 s4 s5 s6 s7 j0 i0 i1 i2 i3;obtain⟨W2,bG⟩:∃W,W=wc:=⟨_,rfl⟩;subst bG;have aA:Ae (Ah A A W2):=(Ar G.2.2.1 lR (At _)).trans (ae.1.below (kV G.2.2.1.size lR) (λj hj e=>by have:=(NU.ge G.2.2.2.1 e).1;omega));have am:Ae (Ah w w W2):=Ar G.2.2.2.2.1 lR aA;have aS:Ae (AC W2 w #[Z r1 nr r3,Z k1 nk k3,Z f1 nf f3,Z t1 nt t3,Z T np X,f.gy,Z g4 nl g6,Z (K ⟨B,C,M⟩) L O] 158):=ae.1.gK (G.1.a7 (At _)) (λe=>by have:=(NU.ge G.2.2.2.1 e).1;have:=G.2.2.2.2.2;omega);(cases bb);(case true=>(have R:Ae (¬CU p f y k x d):= λe=>aE.1 (by first|rfl|trivial) (HQ.1 e).2.2.1);go_wp2_with fail;go_ret;exact⟨.no R,am⟩);case false=>
     (have aF:Ae (BQ p f x d=0):=lW λe=>by have:=aE.2 e;cases this);obtain⟨V',bp,bR⟩:=ae.2 aF;clear bR;have aG:Ae (Gq W2 A V' (Cy p f x d)):=bp;have bt:Ae ((Cy p f x d).length<=1048576):=by
      have D:=aF.o;show(Cy p f x d).length<=1048576;unfold BQ at D;unfold Cy;split
      . simp
      rename_i hn;rw[kP hn]at D;unfold Cf at D;split at D
      . cases D
      split at D
      . cases D
      split at D
      . cases D
      omega
     clear bp ae aE G;clear Q;generalize A.heap.size=S at aG aA⊢;obtain⟨s0,F,s2,s3,s4,s5,s6,s7⟩:=Q0 aS;go_wp2_with fail;refine(Hn (Z (K ⟨B,C,M⟩) L O) f.eC x k W2 (by rw[aP];exact aH) H.1.pl H.2.1 (by have:=(H.1.a7 am).rf.2.2;rw[aP]at this⊢;exact this)).mono ?_;rintro e u3 ⟨pv,rfl,au,b3⟩;obtain⟨pa,pc,bB⟩:=AO au;subst bB;have aR:Ae (∀z∈AY f.eC x k,∃q:Nat,z=q/\q< ↑f.eC):=RK H.1.pl H.2.1
     have b7:=PR f.eC x k;generalize bQ:AY f.eC x k=E at HQ au b7 aR⊢;clear bQ;have E4:Ae (Rd u3 1 (Z pa E pc) E (Ad As E)/\Gq u3 S V' (Cy p f x d)/\Ah w w u3):=⟨Rd.gM au,aG.a7 b3,Ar am lR b3⟩
     clear au b3 aG am aS aA s0 F s2 s3 s4 s5 s6 s7;clear W2;generalize bf:E.length=ll at E4 b7⊢;have ao:Ae (↑E=ll):=bf
     clear bf;go_wp2_with fail;go_loopw [9,45] (λ_ i wr=>∃j:Nat,j<=ll/\i=Ag Af (j:Int)/\Ae ((∀(m:Nat) z,m<j->E[m]?=K z->y[z.toNat]?=K (Cy p f x d))/\Rd wr 1 (Z pa ll pc) ll (Ad As E)/\Gq wr S V' (Cy p f x d)/\Ah w w wr)) (λ_ i _=>ll-(intOf i).toNat)
     (case atStart=>exact⟨0,oM,rfl, λm z hm=>absurd hm oM,E4.1,E4.2.1,E4.2.2⟩);clear E4;obtain⟨j,hj,rfl,N⟩:=hrel;by_cases bJ:j<ll
     . obtain⟨z,P⟩:∃z,E[j]?=K z:=⟨_,an (by rw[ao];exact bJ)⟩;obtain⟨q,bS,bg⟩:=aR.o z (i7 P);subst bS;obtain⟨F,aw⟩:∃s,y[q]?=K s:=⟨_,an (by rw[H.1.len];exact bg)⟩;obtain⟨bT,ce,sb,sd,e',j1,bj,bI⟩:=C9 (H.1.a7 N.2.2.2).rs aQ.symm aw;simp only[kI,mE,mV]at e';obtain⟨rfl,rfl⟩:=e';obtain⟨gp,op,ep,p0⟩:=LH (a:=pa) (n:=ll) (c:=pc) (zs:=E) (by rw[ao];exact N.2.1) ao.symm P;subst ep;(have bZ:(q:Int)<(ns:Int):=by have D:=H.1.len;have h2:=aQ.o;omega);have HZ:Ae (E[j]?=K (q:Int)/\y[q]?=K F/\Rd wr 1 (Z sb F sd) F (Ad As F)/\F.length<=1048576):=⟨P,aw,bj,H.1.rows F (i7 aw)⟩
       clear P aw bj bI bg;go_wp2_with fail;refine(Lr S V' (Z sb F sd) (Cy p f x d) F wr N.2.2.1 HZ.2.2.1 bt HZ.2.2.2).mono ?_;rintro e u5 ⟨⟨b5,rfl,aU⟩,aq⟩;have E5:Ae (Rd u5 1 (Z (K ⟨gp,op,M⟩) ll pc) ll (Ad As E)/\Gq u5 S V' (Cy p f x d)/\Ah w w u5):=⟨N.2.1.a7 aq lR,N.2.2.1.a7 aq,Ar N.2.2.2 lR aq⟩
       have aJ:Ae (b5=true↔Cy p f x d=F):=aU;have br:Ae (∀(m:Nat) z,m<j->E[m]?=K z->y[z.toNat]?=K (Cy p f x d)):=N.1;clear aU aq N j1 p0;cases b5
       . (have R:Ae (¬CU p f y k x d):= λe=>by have D:=(HQ.1 e).2.2.2 (q:Int) (i7 HZ.1);rw[kA,HZ.2.1]at D;have:=aJ.2 (kH D).symm;cases this);go_wp2_with fail;go_ret;exact⟨.no R,E5.2.2⟩
       . have R:Ae (∀(m:Nat) z,m<j+1->E[m]?=K z->y[z.toNat]?=K (Cy p f x d)):= λm z hm P=>by
          by_cases e:m=j
          . subst e;rw[HZ.1]at P;obtain rfl:=kH P;rw[kA,HZ.2.1,aJ.1 (by first|rfl|trivial)]
          exact br.o m z oM P
         go_wp2_with fail;go_roundw;(case rel=>exact⟨j+1,oM,by go_num,R,E5⟩);exact oI
     have bK:j=ll:=oM;subst bK;have HY:Ae (CU p f y k x d):=HQ.2 ⟨bq,bu,aF, λz P=>by obtain⟨m,hm⟩:=lH P;exact N.1 m z (by have:=(i6.1 hm).1;rw[ao]at this;exact this) hm⟩;go_wp2_with fail;go_ret;exact⟨.gY HY,N.2.2.2⟩
theorem H2(fs:List MF):∀(n:Nat) (done:List Int),(∀z∈done,∃q:Nat,z=(q:Int)/\q< ↑fs)->(∀z∈Cx fs n done,∃q:Nat,z=(q:Int)/\q< ↑fs)/\(Cx fs n done).length<= ↑done+n:=by
 intro n;induction n with
 |zero=>intro done h;exact⟨h,Nat.le_refl _⟩
 | succ n g=>
   intro done h;unfold Cx;split
   . rename_i i d;(have f:i<fs.length:=by have:=List.mem_of_find?_eq_some d;simpa using this);obtain⟨b,c⟩:=g (done++[(i:Int)]) λz a=>by
      rcases kO.1 a with e|e
      . exact h z e
      exact⟨i,ld.1 e,f⟩
     refine⟨b,?_⟩;rw[kE,kK]at c;omega
   exact⟨λz a=>(by cases a),sP⟩
theorem Nl{fs:List MF}:∀(k:Nat) (done:List Nat),done.Nodup->∃r:List Nat,Cx fs k (ints done)=[]\/Cx fs k (ints done)=ints r/\r.Nodup
 |0,done,hd=>⟨done,.inr ⟨rfl,hd⟩⟩
 | k + 1,done,hd=>by
   unfold Cx;cases e:GC fs (ints done)with
   |none=>exact⟨[],.inl rfl⟩
   | some i=>simp only[];have c:=List.find?_some e;unfold CP at c;(have j:i∉done:= λq=>by (have f:(ints done).contains (i:Int)=true:=by rw[List.contains_iff_mem];exact lA.2 ⟨i,q,rfl⟩);simp only[f]at c;simp at c);(have d:ints done++[(i:Int)]=ints (done++[i]):=by unfold ints;rw[mF];rfl);rw[d];exact Nl k (done++[i]) (nG.2 ⟨hd,sP, λa g b h e=>j (by rw[ld.1 h]at e;rw[<-e];exact g)⟩)
theorem Pb{w:Y}{a0 a e:J}(h:AC w b #[a0,a,c,d,e] t):w b=K a0/\w ⟨b,1,M⟩=K a/\w ⟨b,2,M⟩=K c/\w ⟨b,3,M⟩=K d/\w ⟨b,4,M⟩=K e:=⟨h.cell 0,h.cell 1,h.cell 2,h.cell 3,h.cell 4⟩
theorem Vz{w:Y}{a:Array J}(h:AC w b a t):w.frozen? b=false/\w.frozen? ⟨b,1,M⟩=false/\w.frozen? ⟨b,2,M⟩=false/\w.frozen? ⟨b,3,M⟩=false/\w.frozen? ⟨b,4,M⟩=false:=⟨h.frozen 0,h.frozen 1,h.frozen 2,h.frozen 3,h.frozen 4⟩
def OP(p:MP)(S:List (List (List Int))):Prop:=S.length= ↑p.bW/\∃g a C D,QL (BM p S) p 0 g a C D
theorem OP.not{p:MP}{S:List (List (List Int))}{c g a:Int}{C D:List Int}(h:QL (BM p S) p c g a C D)(e:c≠0):¬OP p S:= λ⟨_,j,a',f,i,d⟩=>e (QL.one (ty:=BM p S) (λ_ _ _ a b=>BM.one a b) h d).1
structure OR(w:Y)(v:VP)(p:MP)(g:VF)(f:MF):Prop where
 ps:p.small
 pf:A4 p 0
 fs:f.small
 rp:Da w v p
 rf:DE w g f
 c1:1<=f.eC.length
 cl:f.eC.length<=1024
 pl:Ei f.eC
 ok:∀x∈f.eC,AS p f x
 last:∀(k:Nat) x,f.eC[k]?=K x->EO x=true->k+1< ↑f.eC
theorem LN(v:VP)(p:MP)(g:VF)(f:MF)(ao:J)(b:List (List Int))(w:Y)(h:OR w v p g f)(aj:EP w ao b)(aG:∀r∈b,r.length<=1048576)(aU:b.length<=1048576):
 Ai Ap 237 #[Am #[v.r,v.k,v.f,v.t,g.p,f.gy,g.l,g.c],ao] w λe w'=>AJ e (D8 p f b)/\Ah w w w':=by
 obtain⟨G,I,E,F,L,N,f1,f3,rfl⟩:=h.rp.sl;obtain⟨q,z,A,B,C,D,rfl⟩:=EH h.rf;obtain⟨ha,hc,rfl⟩:∃a c,ao=Z a b c:=by obtain⟨_,_,h2,_⟩:=aj;exact h2.dk
 have H:Ae (OR w ⟨Z G p.bO I,Z E p.ej F,Z f1 p.bW f3,Z L p.eD N⟩ p ⟨Z q f.gw z,Z A f.gG B,Z C f.eC D⟩ f/\EP w (Z ha b hc) b/\∀r∈b,r.length<=1048576):=⟨h,aj,aG⟩
 have aQ:=h.cl;have aP:=h.c1;have n:Ae (AC (Ac w (Ak #[Z G p.bO I,Z E p.ej F,Z f1 p.bW f3,Z L p.eD N,Z q f.gw z,f.gy,Z A f.gG B,Z C f.eC D] 158)) w #[Z G p.bO I,Z E p.ej F,Z f1 p.bW f3,Z L p.eD N,Z q f.gw z,f.gy,Z A f.gG B,Z C f.eC D] 158/\Ah w w (Ac w (Ak #[Z G p.bO I,Z E p.ej F,Z f1 p.bW f3,Z L p.eD N,Z q f.gw z,f.gy,Z A f.gG B,Z C f.eC D] 158))):=⟨AC.new _ _ _,Aq _ _⟩
 clear h aj aG;generalize p.bO.length=nr at H n⊢;generalize p.ej.length=nk at H n⊢;generalize p.bW.length=X at H n⊢;generalize p.eD.length=nt at H n⊢;generalize f.gw.length=np at H n⊢;generalize f.gG.length=nl at H n⊢;generalize aE:f.eC.length=W at H n aQ aP⊢;have S:Ae (↑f.eC=W):=aE
 clear aE;generalize aF:b.length=j at H aU⊢;have R:Ae (↑b=j):=aF
 clear aF;go_enter func237,ntmps237;go_upto_region 1 with fail
 refine Ax (λu=>Ae (AC u w #[Z G nr I,Z E nk F,Z f1 X f3,Z L nt N,Z q np z,f.gy,Z A nl B,Z C W D] 158/\Ah w w u)) n ?_
 rintro U Q;clear n;obtain⟨s0,s1,s2,s3,s4,s5,s6,s7⟩:=Q0 Q.1;by_cases ah:j=W
 . subst ah;obtain⟨V,am⟩:∃s,b[0]?=K s:=⟨_,an (by rw[R];omega)⟩;obtain⟨gg,oo,sa,sc,aM,j0,aT,_⟩:=C9 (H.2.1.a7 Q.2 lR) R.symm am;subst aM;rw[kJ]at j0;have aS:(0:Int)<(j:Int):=oM;have au:Ae (b[0]?=K V):=am;clear am aT;by_cases hz:0<V.length
   . have aI:(0:Int)<(V:Int):=oM;(have O:Ae (¬D8 p f b):= λe=>by have:=e.gH;rw[au]at this;obtain rfl:=kH this;simp at hz);clear hz;go_wp2_with fail;go_ret;exact⟨.no O,Q.2⟩
   have aI:¬(0:Int)<(V:Int):=oM;(have HZ:Ae (b[0]?=K []):=by have:=au.o;rw[lJ (show V.length=0 from oM)]at this;exact this);clear hz;go_wp2_with fail;clear j0 s0 s1 s2 s3 s4 s5 s6 s7 aI aS;go_loopw [5,22] (λ_ i wr=>∃k:Nat,k<=j/\i=Ag Af (k:Int)/\Ae ((∀(i:Nat) x d,i<k->f.eC[i]?=K x->b[i]?=K d->CU p f b i x d)/\AC wr w #[Z G nr I,Z E nk F,Z f1 X f3,Z L nt N,Z q np z,f.gy,Z A nl B,Z C j D] 158/\Ah w w wr)) (λ_ i _=>j-(intOf i).toNat)
   (case atStart=>exact⟨0,oM,rfl, λi x d hi=>absurd hi oM,Q⟩);clear Q;obtain⟨k,hk,rfl,m⟩:=hrel;by_cases aA:k<j
   . obtain⟨x,T⟩:∃x,f.eC[k]?=K x:=⟨_,an (by rw[S];exact aA)⟩;obtain⟨d,aH⟩:∃s,b[k]?=K s:=⟨_,an (by rw[R];exact aA)⟩;have P:Ae (f.eC[k]?=K x/\b[k]?=K d):=⟨T,aH⟩
     clear T aH;obtain⟨s0,s1,s2,s3,s4,s5,s6,s7⟩:=Q0 m.2.1;go_wp2_with fail;refine(LM ⟨Z G nr I,Z E nk F,Z f1 X f3,Z L nt N⟩ p ⟨Z q np z,Z A nl B,Z C j D⟩ f (Z (K ⟨gg,oo,M⟩) j hc) b k x d wr ⟨H.1.ps,H.1.pf,H.1.fs,H.1.rp.a7 m.2.2 lR,H.1.rf.a7 m.2.2 lR,H.2.1.a7 m.2.2 lR,by rw[R,S],H.1.cl,H.1.pl,H.2.2,H.1.ok⟩ P.1 P.2 (H.1.last k x P.1)).mono ?_;rintro e u2 ⟨⟨b2,rfl,aw⟩,ae⟩;have E2:Ae (AC u2 w #[Z G nr I,Z E nk F,Z f1 X f3,Z L nt N,Z q np z,f.gy,Z A nl B,Z C j D] 158/\Ah w w u2):=⟨m.2.1.a7 ae,Ar m.2.2 lR ae⟩
     have aq:Ae (b2=true↔CU p f b k x d):=aw;have aJ:Ae (∀(i:Nat) x d,i<k->f.eC[i]?=K x->b[i]?=K d->CU p f b i x d):=m.1;clear aw ae m s0 s1 s2 s3 s4 s5 s6 s7;cases b2
     . (have O:Ae (¬D8 p f b):= λe=>by have:=aq.2 (e.all k x d P.1 P.2);cases this);go_wp2_with fail;go_ret;exact⟨.no O,E2.2⟩
     . have O:Ae (∀(i:Nat) x d,i<k+1->f.eC[i]?=K x->b[i]?=K d->CU p f b i x d):= λi y t hi hy ht=>by
        by_cases e:i=k
        . subst e;rw[P.1]at hy;rw[P.2]at ht;obtain rfl:=kH hy;obtain rfl:=kH ht;exact aq.1 (by first|rfl|trivial)
        exact aJ.o i y t oM hy ht
       go_wp2_with fail;go_roundw;(case rel=>exact⟨k+1,oM,by go_num,O,E2⟩);exact oI
   have aR:k=j:=oM;subst aR;have HY:Ae (D8 p f b):=⟨by rw[R,S],HZ, λi x d T hs=>m.1 i x d (by have:=(i6.1 T).1;rw[S]at this;exact this) T hs⟩;go_wp2_with fail;go_ret;exact⟨.gY HY,m.2.2⟩
 have aW:((j:Int) != (W:Int))=true:=oT;have O:Ae (¬D8 p f b):= λe=>ah (by rw[<-R,<-S];exact e.len)
 clear ah;go_wp2_with fail;go_ret;exact⟨.no O,Q.2⟩
theorem QN.nn{E:Nat->List Nat}{n:Nat}{b:Nat->Prop}{a:Nat->Nat}{C:Nat->Int}{r:Int}(h:QN E n b a C r):r=-1\/0<=r:=by
 rcases h with⟨h,_⟩|⟨s,_,m⟩
 . exact .inl h
 exact .inr m.nn
theorem QK.nn{E:Nat->List Nat}{n:Nat}{D L:Nat->Nat->Bool}{iv:Nat->Int}{d:Nat->Prop}{b:List Nat}{a:Nat->Nat}{C:Nat->Int}{r:Int}(h:QK E n D L iv d b a C r):r=-1\/0<=r:=by
 induction h with
 |nil h=>exact h.nn
 |bad _=>exact .inl rfl
 |step _ _ c=>exact c
theorem Dr.nn{p:MP}{a:Int}{C:List Int}{v:Int}(h:Dr p a C v):v=-1\/0<=v:=by
 rcases h with⟨_,h⟩|⟨f,r,_,_,_,_,_,h⟩
 . exact .inl h
 rcases h with⟨_,h⟩|⟨_,_,_,_,_,_,_,_,_,h⟩
 . exact .inl h
 exact h.nn
theorem Bg.free{xs:List MI}{r:DC}(h:Bg xs r)(a:r.eC=0):A3 xs/\∃x,xs[xs.length-1]?=K x/\EO x=false:=by
 cases h with
 |good g x1 o1=>exact⟨g,_,x1,o1⟩
 |_=>simp[DY]at a
theorem V0{w:Y}{v:VP}{p:MP}{m:Nat}{r:DC}(l:p.small)(j:A4 p 0)(h:Da w v p)(d:p.bW[m]?=K f)(s:DE w g f)(q:Bg f.eC r)(n:r.eC=0):OR w v p g f:=by
 obtain⟨b,z,u,i⟩:=q.free n;refine⟨l,j,l.func f (i7 d),h,s,b.1,b.2.1,b.2.2, λx a=> ?_, λk x a t=> ?_⟩
 . obtain⟨k,c⟩:=lH a;exact j.iB d c
 have y:=(i6.1 a).1;refine lW λe=> ?_
 have c:k= ↑f.eC-1:=oM
 rw[c,u]at a;obtain rfl:=kH a;rw[t]at i;cases i
theorem OR.a7{w b:Y}{v:VP}{p:MP}(h:OR w v p g f)(a:Ah w w b):OR b v p g f:=⟨h.ps,h.pf,h.fs,h.rp.a7 a lR,h.rf.a7 a lR,h.c1,h.cl,h.pl,h.ok,h.last⟩
theorem BM.len{p:MP}{S:List (List (List Int))}{q:Nat}{y:Me}(h:BM p S q y)(c:y.eC=0)(d:p.bW[q]?=K f):y.gR.length=f.eC.length:=by
 obtain⟨i,g,⟨_,rfl⟩|⟨⟨_,_,e,a,_,b⟩,rfl⟩⟩:=h
 . cases c
 rw[kA,d]at a;obtain rfl:=kH a;exact b.len
theorem RW(v:BI)(p:MP)(f:MF)(r:DC)(S:List (List (List Int)))(q:Nat)(s:Ey)(L w:Y)(D:Ah L L w)(hS:Iz L (Z s.a s.n s.c) S)(hq:q< ↑S)(aA:OR w ⟨Z v.r.a v.r.n v.r.c,Z v.k.a v.k.n v.k.c,Z v.f.a v.f.n v.f.c,Z v.t.a v.t.n v.t.c⟩ p ⟨Z v.p.a v.p.n v.p.c,Z v.l.a v.l.n v.l.c,Z v.c.a v.c.n v.c.c⟩ f)(aw:v.rs=f.gy)(aP:v.nu=(q:Int))(hp:A4 p 0)(hf:p.bW[q]?=K f)(aq:Bg f.eC r)(h0:r.eC=0):
 Ai Ap 236 #[Z s.a s.n s.c,Am v.cells] w λe w'=>∃(y:Me) (E:Option Addr) (F:Nat),e=Al (Am #[y.eC,y.at_,y.depth,Z E y.gR F])/\BM p S q y/\(∀B,Ah L L B->Gi B (Z E y.gR F) y.gR)/\Ah w w w':=by
 obtain⟨d,aj⟩:∃d,S[q]?=K d:=⟨_,an hq⟩;obtain⟨g,o,E,F,ea,en,ao,au,aE,aF⟩:=hS.at aj;have T:Ae (∀B,Ah L L B->EP B (Z E d F) d):= λB D=>au.a7 D lR
 have HP:Ae (BR p (q:Int) d↔D8 p f d):=⟨λ⟨_,_,f',h2,_,h3⟩=>by rw[kA,hf]at h2;obtain rfl:=kH h2;exact h3, λh=>⟨hp,oM,f,by rw[kA];exact hf,⟨r,aq,h0⟩,h⟩⟩;have ah:=Au D ao;have A:=Av (d5 aA (d5 aw (d5 aj (d5 aE (d5 aF D)))));have aY:(q:Int)<(s.n:Int):=oM;have R:=BL w v.cells #[iZ 0,iZ 0,iZ 0,sN] 160 163;clear D hS aA aw hp hf aq h0 aE aF au ao aj;rw[ea];generalize hN:d.length=I at ah T A⊢;have H:=Av hN;clear hN;go_enter func236,ntmps236;go_upto_region 1 with fail
 refine Ax (λu=>Ae (AC u w v.cells 160/\AC u ((w:Nat)+1) #[iZ 0,iZ 0,iZ 0,sN] 163/\Ah w w u)) ⟨R.1,R.2.1,R.2.2⟩ ?_
 rintro U C;clear R;obtain⟨p0,p1,p2,p3,p4,p5,p6,p7,p8,p9,aR,aS,aT,aU,aW⟩:=CQ C.1;rw[A.2.1]at p5;rw[aP]at p8;have aI:=Au C.2.2 ah;clear ah;go_wp2_with fail;clear p0 p1 p2 p3 p4 p5 p6 p7 p8 p9 aR aS aT aU aW aI;have HU:=Av (Ar A.2.2.2.2.2 lR C.2.2);refine(LN ⟨Z v.r.a v.r.n v.r.c,Z v.k.a v.k.n v.k.c,Z v.f.a v.f.n v.f.c,Z v.t.a v.t.n v.t.c⟩ p ⟨Z v.p.a v.p.n v.p.c,Z v.l.a v.l.n v.l.c,Z v.c.a v.c.n v.c.c⟩ f (Z E I F) d U (A.1.a7 C.2.2) (T.o U HU) A.2.2.2.2.1 (by rw[H];exact A.2.2.2.1)).mono ?_;rintro e u1 ⟨⟨b,rfl,D⟩,bb⟩;have j:=Av (d5 (C.2.1.a7 bb) (d5 (Ar C.2.2 lR bb) C.2.1.lt));have W:Ae (b=true↔D8 p f d):=D;clear D bb C HU;obtain⟨N,O,P,Q⟩:=BP j.1;have f0:=j.1.frozen 0;have f1:=j.1.frozen 1;have f2:=j.1.frozen 2;have f3:=j.1.frozen 3;cases b
 case false=>have X:Ae (BM p S q ⟨6,0,0,[]⟩):=⟨d,A.2.2.1,.inl ⟨λe=>(by have:=W.2 (HP.1 e);cases this),rfl⟩⟩;go_wp2_with fail;have G:Ae _:=(((j.1.set 0 (iZ 6)).set 1 (iZ 0)).set 2 (iZ 0)).set 3 sN;simp only[lF,lI,lT]at G;clear N O P Q;obtain⟨N,O,P,Q⟩:=BP G;have hl:=j.2.2;exact kQ (v:=Am #[iZ 6,iZ 0,iZ 0,sN]) (by simp[results,results236,go_sem,N,O,P,Q]) rfl ⟨⟨6,0,0,[]⟩,M,0,rfl,X, λB _=>⟨[],rfl,⟨rfl,.inl ⟨rfl,_,_,rfl⟩⟩, λx hx=>by cases hx⟩,((((j.2.1.setCell (by show(w:Nat)<= ↑w+1;omega) _).setCell (by show(w:Nat)<= ↑w+1;omega) _).setCell (by show(w:Nat)<= ↑w+1;omega) _).setCell (by show(w:Nat)<= ↑w+1;omega) _)⟩
 have X:Ae (BM p S q ⟨0,0,Kv d,d⟩):=⟨d,A.2.2.1,.inr ⟨HP.2 (W.1 rfl),rfl⟩⟩;have aG:=Av (Ar A.2.2.2.2.2 lR j.2.1);have aZ:I<=1048576:=by have:=A.2.2.2.1;have:=H.o;omega
 clear HP W;go_wp2_with fail;go_loopw [6,8,22] (λm _ i wr=>∃(k:Nat) (z:Int),k<=I/\m=iZ z/\i=iZ k/\Ae (z=Kv (d.take k))/\wr=u1) (λ_ _ i _=>I-(intOf i).toNat)
 case atStart=>exact⟨0,0,oM,rfl,rfl,rfl,rfl⟩
 obtain⟨k,z,hk,rfl,rfl,V,rfl⟩:=hrel;by_cases aM:k<I;case pos=>
  have aX:(k:Int)<(I:Int):=oM;obtain⟨sk,am⟩:∃x,d[k]?=K x:=⟨_,an (by rw[H];exact aM)⟩;obtain⟨gg,oo,ra,rc,aH,j0,aQ,aJ⟩:=C9 (T.o _ aG) H.symm am;subst aH;have ae:Ae (max z (sk:Int)=Kv (d.take (k+1))):=by show max z (sk:Int)=_;rw[List.take_add_one,am,Option.toList_some,Uc,V]
  clear aQ aJ am V;go_wp2_with fail;go_roundw;case rel=>exact⟨k+1,_,oM,rfl,by go_num,ae,trivial⟩
  exact oI
 obtain rfl:k=I:=oM;have ae:Ae (z=Kv d):=by have:=V.o;rw[<-H,List.take_length]at this;exact this
 clear V;go_wp2_with fail;have G:Ae _:=(((j.1.set 0 (iZ 0)).set 1 (iZ 0)).set 2 z).set 3 (Z E k F);simp only[lF,lI,lT]at G;clear N O P Q;obtain⟨N,O,P,Q⟩:=BP G;have hl:=j.2.2;exact kQ (v:=Am #[iZ 0,iZ 0,z,Z E k F]) (by simp[results,results236,go_sem,N,O,P,Q]) rfl ⟨⟨0,0,Kv d,d⟩,E,F,by rw[<-ae,H],X, λB h=>by rw[H];exact(T.o B h).rd,((((j.2.1.setCell (by show(w:Nat)<= ↑w+1;omega) _).setCell (by show(w:Nat)<= ↑w+1;omega) _).setCell (by show(w:Nat)<= ↑w+1;omega) _).setCell (by show(w:Nat)<= ↑w+1;omega) _)⟩
end Go.Proofs.YtmalfecapdmdbaaGreat
