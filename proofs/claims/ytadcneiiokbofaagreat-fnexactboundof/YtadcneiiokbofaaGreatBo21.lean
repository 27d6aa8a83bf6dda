import Derived.Test.YtadcneiiokbofaaGreatBo19
namespace Go.Proofs.YtadcneiiokbofaaGreat
open Go.ChangeShapes Go.WideShapes Go.ChangeAt Go.RowKit
set_option linter.unusedVariables false
open Option renaming some → K,none → M
open Go.Value renaming slice → Z,int → Ag,tuple → Ao
open Go renaming Value → J,World → Y,Calls → Ai
open Go.IntKind renaming i64 → Af
open Go.RowKit renaming Below → Ah
open Go.Ending renaming returned → Al
open Go.Proofs.Tryz renaming prog → Ap
open Go.World renaming setCell → Aa,ownsRow → Ab
open List renaming flatMap → Ad
variable {p:MP}{f:MF}{x:MI}{d me D k b i e n t G:Nat}{sh j:List Int}{T:Nat->List Int}{c:List MB}{a:Ll}{z:Int}{m:MB}{s:WS}{C:Nat->Option (List Int)}{w u:Y}{E:Nat->List Nat}{O:List Nat}
theorem Kd(a:f.bO[d]?=K x)(b:d<=me):CY p f (me+1-d) d sh T D=if BJ p f x sh=0 then CY p f (me+1-(d+1)) (d+1) (Dt p f x sh) (CR T d sh) (max D (Dt p f x sh).length)else .inl (BJ p f x sh,d):=by have e:me+1-d=(me+1-(d+1))+1:=oM;rw[e,CY,a]
theorem Mj(a:d=me+1):CY p f (me+1-d) d sh T D=.inr (sh,T,D):=by have e:me+1-d=0:=oM;rw[e,CY]
theorem K9{α:Type}{l:List α}{x:α}(h:l[k]?=K x):l.drop k=x::l.drop (k+1):=by obtain⟨i,rfl⟩:=i8.1 h;exact mq i
theorem Tl{a:List Int}{d:Ll}(h:FU p f c ((a.map Int.toNat).drop k) s=d)(j:a[k]?=K z)(g:z=(b:Int))(i:c[b]?=K m):(match QM p f m b s with|.inl e=>Sum.inl e|.inr s'=>FU p f c ((a.map Int.toNat).drop (k+1)) s')=d:=by
 have e:(a.map Int.toNat)[k]?=K b:=by rw[mE,j,g];simp
 rw[K9 e,FU,i]at h;exact h
def JQ(p:MP)(f:MF)(c:List MB)(rest:List Nat)(me:Nat)(nx:List Nat)(sh:List Int)(C:Nat->Option (List Int))(T:Nat->List Int)(D:Nat)(b:Ll):Prop:=(match Gv nx sh C with|none=>Sum.inl (4,me)|some a=>FU p f c rest ⟨a,T,D⟩)=b
theorem Tj{a:Nat}(g:m.gZ=(a:Int))(h:m.last=(me:Int)):QM p f m b s=(match CY p f (me+1-a) a ((s.c b).getD []) s.t s.d with|.inl e=>.inl e|.inr (sh,T,D)=>match Gv (m.next.map Int.toNat) sh s.c with|none=>.inl (4,me)|some C=>.inr ⟨C,T,D⟩):=by unfold QM;have e:(m.last-m.gZ+1).toNat=me+1-a:=oM;rw[e,g,h,lD,lD]<;>rfl
theorem JQ.bad{i:List MB}{a:Nat}{g:Ll}{e:Int×Nat}(h:FU p f i ((j.map Int.toNat).drop k) s=g)(v:j[k]?=K z)(l:z=(b:Int))(r:i[b]?=K m)(n:m.gZ=(a:Int))(q:m.last=(me:Int))(u:CY p f (me+1-a) a ((s.c b).getD []) s.t s.d=.inl e):g=.inl e:=by have:=Tl h v l r;rw[Tj n q,u]at this;exact this.symm
theorem JQ.of{g:List MB}{n:Ll}{l:List Int}(h:FU p f g ((j.map Int.toNat).drop k) s=n)(y:j[k]?=K z)(q:z=(b:Int))(v:g[b]?=K m)(r:m.gZ=(i:Int))(u:m.last=(me:Int))(w:CY p f (me+1-i) i ((s.c b).getD []) s.t s.d=.inr (l,T,D))(x:l=sh\/m.next=[]):JQ p f g ((j.map Int.toNat).drop (k+1)) me (m.next.map Int.toNat) sh s.c T D n:=by
 have a:=Tl h y q v;rw[Tj r u,w]at a;unfold JQ;rcases x with e|e
 . subst e;rw[<-a];simp only[];cases Gv (m.next.map Int.toNat) l s.c<;>rfl
 rw[e]at a⊢;exact a
theorem JQ.none_{rest nx:List Nat}{b:List Int}(h:JQ p f c rest me (t::nx) sh C T D a)(d:C t=K b)(e:¬b=sh):a=.inl (4,me):=by unfold JQ at h;rw[Gv,d]at h;simp only[lS e]at h;exact h.symm
theorem JQ.same{b:List MB}{rest nx:List Nat}{c:List Int}(h:JQ p f b rest me (t::nx) sh C T D a)(d:C t=K c)(e:c=sh):JQ p f b rest me nx sh C T D a:=by unfold JQ at h⊢;rw[Gv,d]at h;simp only[lZ e]at h;exact h
theorem JQ.new{b:List MB}{rest nx:List Nat}(h:JQ p f b rest me (t::nx) sh C T D a)(c:C t=M):JQ p f b rest me nx sh (Gy C t sh) T D a:=by unfold JQ at h⊢;rw[Gv,c]at h;exact h
theorem JQ.some_{b:List MB}{rest:List Nat}(h:JQ p f b rest me [] sh C T D a):FU p f b rest ⟨C,T,D⟩=a:=h
theorem Kz(h:Cf p f x sh=0):(FR p f x sh).length<=64:=by
 unfold Cf at h;by_cases a: ↑sh<(AJ p f x).length
 . rw[lZ a]at h;simp at h
 rw[lS a]at h;split at h
 . simp at h
 split at h
 . simp at h
 omega
theorem VZ{xs:List MI}(h:(AL xs)[b]?=K m)(d:m.last=(e:Int))(i:xs[e]?=K x)(g:x.op=29):m.next=[]:=by
 unfold AL at h;rw[mE]at h;obtain⟨a,j,rfl⟩:=m6.1 h;have f:a.last=(e:Int):=d;have c:(Fb xs a).next=Ea xs x e:=by unfold Fb;rw[f,lD,lN,i];rfl
 rw[c];simp[Ea,FW,A3,g]
theorem VI(l:List Nat):nv l=(ints l).map (Ag Af):=by simp[nv,ints]
theorem Vn(l:List Nat):ints l.reverse=(ints l).reverse:=by simp[ints]
theorem QL(g c base:Nat)(O:List Nat)(w:Y)(v:O.length<=1048576)(h:GE w base (sG g O c) O):
 Ai Ap 142 #[sG g O c] w λe a=>e=Al (Ao #[])/\GE a base (sG g O c) O.reverse/\w.grownBy a (K g):=by
 rcases h.2 with⟨b,_⟩|⟨u,s,t,b,q,i,j,k,l,m⟩
 . cases b
 cases b
 have p:Go.Sort.Holds (Ag Af) w g 0 (ints O).toArray:=holds_of_blockI i (by rw[AV,<-VI];simpa using m);have f:=QK g c (ints O) w p (by rw[AV];omega);rw[AV]at f;refine f.mono ?_;rintro e a ⟨rfl,n,r⟩;have d:a=Go.Sort.grow (Go.Sort.putRow (Ag Af) (Go.Sort.ahead w n) g 0 (ints O).reverse.toArray) #[]:=by rw[Go.Sort.grow_empty];exact r
 refine⟨rfl,?_,?_⟩
 . have:=ownsRow_sortedI (w:=w) (base:=base) (g:=g) (cap:=c) (n:=n) (os:=#[]) (ss:=ints O) (ts:=(ints O).reverse) sP q i (by rw[AV];exact j) k l;rw[<-d,AV,<-Vn,<-VI]at this;unfold GE;rw[mv];exact this
 rw[d];exact grownBy_sortedI _
theorem We(g c base:Nat)(a:List Int)(w:Y)(t:a.length<=1048576)(h:Ab w base 2 1 (sG g a c) a (Ad As a)):
 Ai Ap 136 #[sG g a c] w λe f=>e=Al (Ao #[])/\Ab f base 2 1 (sG g a c) a (Ad As (a.mergeSort λx y=>decide (x<=y)))/\w.grownBy f (K g):=by
 rcases h.2 with⟨b,_⟩|⟨s,q,r,b,p,d,i,j,k,l⟩
 . cases b
 cases b
 have m:Go.Sort.Holds (Ag Af) w g 0 a.toArray:=holds_of_blockI d (by rw[<-Dc];simpa using l);refine(QQ g c a w m (lK.1 d).1 oM).mono ?_;rintro e f ⟨rfl,n,os,rfl⟩;refine⟨rfl,?_,grownBy_sortedI _⟩;rw[Dc];exact ownsRow_sortedI (oY a _).length_eq p d i j k
theorem Gj.kw{g:Nat}{X:List Nat}(h:Gj w g 0 n E)(t:∀k,k< ↑w->k∉X->u.heap[k]?=w.heap[k]?)(y:g∉X)(A:∀b a m c,b<n->w ⟨g,b,M⟩=K (Z (K a) m c)->0<m->a.block∉X):Gj u g 0 n E:= λb l=>by
 have p:∀{a:Addr} {x:J},w a=K x->a.block∉X->u a=K x:= λ{a x} q z=>by have:=t a.block (g8 q) z;unfold World.cell? at*;rw[this];exact q
 obtain⟨a,c,d,i⟩:=h b l;rw[mQ]at d;refine⟨a,c,by rw[mQ];exact p d y,i.1,i.2.imp id ?_⟩;rintro⟨f,s,c',e,q⟩;refine⟨f,s,c',e, λj v r=>p (q j v r) ?_⟩;simp only[lB,mB]at e;exact A b ⟨f,s,M⟩ _ c l (by rw[d,e.1]) (by have:=(i8.1 r).1;rw[Ub]at this;omega)
structure GM(w u:Y)(n G gN cN gF gO cO gP:Nat)(E:Nat->List Nat)(S O:List Nat):Prop where
 ge: ↑w<=G
 ie:AA u G #[sG gN n cN,sG gF n n,sG gO O cO,sG gP n n,sN] 196
 nx:Gj u gN 0 n E
 fr:Gj u gF 0 n (BC E n)
 vs:Vs E [] [] [0] S O
 ord:GE u w (sG gO O cO) O.reverse
 pl:∀x,x∈O->u ⟨gP,x,M⟩=K ↑(Dl O x:Int)
 ej:Ah w w u
 ne:gN≠G/\gF≠G/\gO≠G/\gP≠G
 nn:∀b a m c,b<n->u ⟨gN,b,M⟩=K (Z (K a) m c)->0<m->a.block≠G
 nf:∀b a m c,b<n->u ⟨gF,b,M⟩=K (Z (K a) m c)->a.block≠G
theorem VG{y:Y}{j F f:Nat}{s:List J}{r:List (J×List Nat)}(h:NG w y u n G i (sG f n n) (sG j n F) s r)(hN: ↑s=n)(T: ↑r=n)(C:∀x,x<n->∃V,r[x]?=K (V,BC E n x))(D:∀x,x<n->∃a c,s[x]?=K (Z a (E x).length c)/\Jo w (Z a (E x).length c) (E x))(I:Ab y w 2 1 (sG f n n) n (iv (λ_=>0) n))(N:f≠G)(L:f≠i):Gj u j 0 n E/\Gj u i 0 n (BC E n)/\(j≠G/\i≠G/\f≠G/\j≠f/\i≠f)/\(∀b a m c,b<n->u ⟨j,b,M⟩=K (Z (K a) m c)->0<m->a.block≠G/\a.block≠f)/\(∀b a m c,b<n->u ⟨i,b,M⟩=K (Z (K a) m c)->a.block≠G/\a.block≠f):=by
 have X: ↑w<=f/\f<y.heap.size:=by obtain⟨k,Q,l⟩:=AD I;exact⟨k,(lK.1 l).1⟩
 have U:=h.lt;have v:=h.iK;rw[hN]at v;have W:=(AD v).1;have A:∀b,b<n->u ⟨j,b,M⟩=s[b]?:= λb d=>by have:=v.cellAt b oM;exact this
 have z:∀b,b<n->u ⟨i,b,M⟩=(r.map Prod.fst)[b]?:= λb d=>h.iD.cellAt b oM
 have H:i≠G:= λe=>Gg h.ie h.iD dC (by rw[e];rfl)
 refine⟨λb d=> ?_, λb d=> ?_,⟨oM,H,N,oM,Ne.symm L⟩, λb a m c d g O=> ?_, λb a m c d g=> ?_⟩
 . obtain⟨a,c,k,l⟩:=D b d;exact⟨a,c,by rw[mQ,A b d];exact k,Rd.a7 l h.ej lR⟩
 . obtain⟨V,p⟩:=C b d;have t:=h.io.own (V,ints (BC E n b)) (mG.2 ⟨(V,_),lA p,rfl⟩);obtain⟨a,c,e⟩:=AF t;simp only[AV]at e;subst e;refine⟨a,c,by rw[mQ,z b d,mE,p];rfl,?_⟩;have:=Rd.ij t;simp only[AV]at this;rw[<-Df]at this;exact this
 . rw[A b d]at g;obtain⟨a',c',k,l⟩:=D b d;rw[k]at g;simp only[lH,lB]at g;obtain⟨rfl,rfl,rfl⟩:=g;rcases l.2 with⟨R,_⟩|⟨S,o',c',B,q⟩
   . omega
   simp only[lB,lH,mB]at B;obtain⟨rfl,rfl⟩:=B;obtain⟨x,P⟩:∃x,(E b)[0]?=K x:=⟨_,an O⟩;have:=g8 (q 0 _ (NQ P));simp only[]at this⊢;omega
 rw[z b d]at g;obtain⟨V,p⟩:=C b d;rw[mE,p]at g;simp only[oL,lH]at g;subst g;have t:=h.io.own _ (mG.2 ⟨(_,_),lA p,rfl⟩);have:=(t.lt a.block rfl).1;omega
structure XU(w u3 u:Y)(n G gN cN gF gO cO gP:Nat)(R:List Nat):Prop where
 ie:AA u G #[sG gN n cN,sG gF n n,sG gO R cO,sG gP n n,sN] 196
 ord:GE u u3 (sG gO R cO) R
 jH:Ab u w 2 1 (sG gP n n) n (iv (λ_=>0) n)
 fx:∀k,k< ↑u3->k≠G->k≠gP->u.heap[k]?=u3.heap[k]?
 size:(u3:Nat)<= ↑u
 ej:Ah w w u
theorem XU.rev{a g:Y}{m l f:Nat}(h:XU w a u n G m i l b d f O)(A: ↑a<=b)(y:G< ↑a)(z:f< ↑a)(hw:(w:Nat)<= ↑a)(v:GE g a (sG b O d) O.reverse)(c:u.grownBy g (K b)):XU w a g n G m i l b d f O.reverse:=by
 refine⟨?_,by rw[mv];exact v,Dz h.jH c (λq x e=>by simp only[Value.ownBlock,lH]at x;have:=lP e;omega), λk p r s=> ?_,lQ h.size c.size,h.ej.grown c h.ej.size (λj t=>by cases t;omega)⟩
 . rw[mv];exact h.ie.gb c (λe=>by have:=lP e;omega)
 rw[c.block k (mT p h.size) (λe=>by have:=lP e;omega)];exact h.fx k p r s
structure Xv(w u7 u:Y)(n gP:Nat)(O:List Nat)(k:Nat):Prop where
 row:Ab u w 2 1 (sG gP n n) n (iv (Mf O k) n)
 fx:∀k,k< ↑u7->k≠gP->u.heap[k]?=u7.heap[k]?
 ej:Ah w w u
theorem Xv.set{c:Y}{a x:Nat}(h:Xv w c u n a O k)(d:O.Nodup)(f:O.reverse[k]?=K x):Xv w c (Aa u ⟨a,x,M⟩ k) n a O (k+1):=by refine⟨?_, λk e b=>by rw[mS u _ k _ b];exact h.fx k e b,h.ej.setCell (AD h.row).1 _⟩;have:=(h.row.stored x k).1;rw[Vq (N1 d f n)]at this;exact this
theorem Xv.cell{d:Y}(h:Xv w d u n b O k){a:Addr}{x:J}(c:d a=K x)(e:a.block≠b):u a=K x:=by have:=h.fx a.block (g8 c) e;unfold World.cell? at*;rw[this];exact c
theorem Yb{d T:Y}{y f v:Nat}{S:List Nat}(p:XU w d T n G i y f v t e O.reverse)(s:Xv w T u n e O O)(hv:Vs E [] [] [0] S O)(H:∀x∈O,x<n)(U: ↑w<=G)(aj:G< ↑d)(am:e< ↑d)(ah:(w:Nat)<= ↑d)(C:Gj d i 0 n E)(D:Gj d f 0 n (BC E n))(ne:i≠G/\f≠G/\e≠G/\i≠e/\f≠e)(Q:∀b a m c,b<n->d ⟨i,b,M⟩=K (Z (K a) m c)->0<m->a.block≠G/\a.block≠e)(R:∀b a m c,b<n->d ⟨f,b,M⟩=K (Z (K a) m c)->a.block≠G/\a.block≠e):GM w u n G i y f v t e E S O:=by
 have ao:=(AD p.ord).1;have fx:∀k,k< ↑d->k∉[G,e]->u.heap[k]?=d.heap[k]?:= λk L r=>by simp only[lw,mK,nJ,not_or]at r;rw[s.fx k (mT L p.size) r.2];exact p.fx k L r.1 r.2
 have I:∀(g b:Nat),g∉[G,e]->g< ↑d->u ⟨g,b,M⟩=d ⟨g,b,M⟩:= λg b r ae=>by unfold World.cell?;rw[fx g ae r]
 have X:i< ↑d\/n=0:=by
  by_cases q:n=0
  . exact .inr q
  obtain⟨a,c,z,_⟩:=C 0 oM;exact .inl (g8 z)
 have W:f< ↑d\/n=0:=by
  by_cases q:n=0
  . exact .inr q
  obtain⟨a,c,z,_⟩:=D 0 oM;exact .inl (g8 z)
 have N:i∉[G,e]:=by simp[ne]
 have P:f∉[G,e]:=by simp[ne]
 have kb:AA u G #[sG i n y,sG f n n,sG v O t,sG e n n,sN] 196:=by have h:=p.ie;rw[mv]at h;unfold AA at*;rw[s.fx G p.ie.lt (Ne.symm ne.2.2.1)];exact h
 refine⟨U,kb,C.kw fx N (λb a m c l j A=>by have:=Q b a m c l j A;simp[this]),D.kw fx P (λb a m c l j _=>by have:=R b a m c l j;simp[this]),hv,?_, λx B=> ?_,s.ej,⟨ne.1,ne.2.1,oM,ne.2.2.1⟩, λb a m c l j A=> ?_, λb a m c l j=> ?_⟩
 . have h:=p.ord;have F:GE u d (sG v O.reverse t) O.reverse:=h.fx s.fx (λg V=>by simp only[Value.ownBlock,lH]at V;omega);rw[mv]at F;exact Bb F ah
 . have:=s.row.cellAt x (by have:=H x B;omega);rw[NF _ _ _ (H x B),QD O x B]at this;exact this
 . rw[I i b N (X.resolve_right oM)]at j;exact(Q b a m c l j A).1
 rw[I f b P (W.resolve_right oM)]at j;exact(R b a m c l j).1
end Go.Proofs.YtadcneiiokbofaaGreat
