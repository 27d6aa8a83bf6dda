import Derived.Test.YtkgohaigebcgoaaGreatDoorLo32
import Derived.Lib.SlBuf
import Derived.Test.YtkgohaigebcgoaaGreatDoorLo27
namespace Go.Proofs.YtkgohaigebcgoaaGreatDoor
open Go.ChangeShapes Go.WideShapes Go.ChangeAt Go.RowKit Go.Proofs.Tryz
set_option linter.unusedVariables false
open Go.Value renaming slice → Z,int → Ag,agg → An,tuple → Ap
open Option renaming some → K,none → M
open Go renaming Value → J,World → Y,Calls → Ai,TypeId → Aj
open Go.RowKit renaming Below → Ah,Hid → Ae
open Go.Obj renaming cells → Ak
open Go.Ending renaming returned → Am
open Go.Proofs.Tryz renaming prog → Aq
open Go.World renaming setCell → Aa,ownsRow → Ab,alloc → Ac
open List renaming flatMap → Ad
open Go.IntKind renaming i64 → Af
set_option maxHeartbeats 8000000
set_option maxRecDepth 100000
variable {w u:Y}{base k n m B q top gf:Nat}{g:VF}{c a b t op c':Int}{v:VP}{C i:List (J×List MC)}{F:List (MG×J)}{x:MG×J}{d:Bool}{X:VS}{r:Ee}{p:MP}{s:WI}{f:MF}{vl:J}
theorem Tc{e:Aj}{g c:Nat}{xs cs:List J}{a:Array J}(h:Ab w base e k (Z g n c) n xs)(f:w.heap[g]?=K (Ak a e (0,0)))(p: ↑cs<=n*k):Ab (w.setRow g (a.toList.take 0++cs++a.toList.drop (0+cs.length)).toArray) base e k (Z g n c) n (cs++xs.drop cs):=by
 rcases h.2 with⟨b,_⟩|⟨s,cap,r,b,j,d,i,l,m,ht⟩
 . cases b
 simp only[i8,jJ,lT,kW,mD]at b;obtain⟨rfl,rfl⟩:=b;rw[f]at d;simp only[jJ,lQ,mD]at d;obtain rfl:=d;have q:=h.1;have t:n*k<=a.toList.length:=by rw[Array.length_toList,m];exact Nat.mul_le_mul_right k i
 refine⟨by rw[jI,kZ,q];omega,.inr ⟨g,c,_,rfl,j,setRow_heap w g a _ e _ f,i,l,?_,?_⟩⟩
 . simp only[List.size_toArray,List.take_zero,k7,jI,kZ,kT,Array.length_toList]at*;omega
 simp only[List.take_zero,k7,kT];rw[List.take_append,kP p,<-ht,List.drop_take]
theorem Sr{R:Nat->Prop}(g:Nat)(cs:Array J)(h:R g):Bp R u (u.setRow g cs):=⟨rfl,rfl,rfl,sP, λk b a=>setRow_other u g k cs (λe=>a (e▸h))⟩
theorem R8(a b:List Int)(ar:List MC)(h:ar.length= ↑a):Ad MC.cells ar++(Ad MC.cells (A9 (a++b))).drop (Ad MC.cells ar).length=Ad MC.cells (ar++A9 b):=by
 have c:(Ad MC.cells ar).length=(Ad MC.cells (A9 a)).length:=by rw[AV MC.cells 2 MC.bW,AV MC.cells 2 MC.bW,h];simp[A9]
 have d:A9 (a++b)=A9 a++A9 b:=by simp[A9]
 rw[c,d,kJ,List.drop_left,<-kJ]
theorem AB.iQ{l m:Y}{v:VS}{K:List MC}(d:AB l B v C K F)(A:B<=q)(D:∀j,Dt v C F j->j<q)(w:Ab l q 193 2 x.2 x.1.a7 (Ad MC.cells x.1.a7)){b:J}(E:l.grownBy m v.f.ownBlock)(L:Ab m B 132 4 b (F.length+1) (Ad BG F++BG x)):AB m B {v with f:=b} C K (F++[x]):=by
 have apart:∀{e:Aj} {s:J} {k n:Nat} {xs:List J} {p:Nat},Ab l p e k s n xs->e≠132->Ab m p e k s n xs:=by
  intro e s k n xs p y I;refine Dc y E (λg H i=> ?_);rcases d.dk.2 with⟨t,_⟩|⟨O,cap,N,t,_,G,_⟩
  . rw[t]at i;cases i
  rw[t]at i;simp only[Value.ownBlock,jJ]at i;subst i;exact Bn y G I g H rfl
 refine⟨apart d.cells dC,?_,?_,?_⟩
 . rw[jI,kJ];simpa using L
 . intro r c;simp only[Bm,k8,lM,List.map_nil,jL,jK,jO,kM]at c;rcases c with(c|rfl)|c|rfl
   . exact apart (d.eT.own r (by simp[c])) dC
   . exact apart (d.eT.own (v.k,K) sP) dC
   . exact apart (d.eT.own r (by simp only[Bm,jL];exact .inr c)) dC
   exact apart (Bt w A) dC
 rw[show C++[(v.k,K)]++Bm (F++[x])=(C++[(v.k,K)]++Bm F)++[(x.2,x.1.a7)]by simp[Bm]];refine kv.2 ⟨d.eT.sep,sP, λa h r c=> ?_⟩;simp only[jK,jO,kM]at c;subst c;intro g u e;have P:=w.lt g e;have z:Dt v C F g:=by
  simp only[jL,jU]at h;rcases h with(h|rfl)|h
  . exact .inr (.inr (.inr (.inl ⟨a,h,u⟩)))
  . exact .inr (.inl u)
  exact .inr (.inr (.inr (.inr ⟨a,h,u⟩)))
 have:=D g z;omega
theorem AH.iU{l:Nat}{n:Int}{K:List MC}{r:J}{p s:Nat}{m:VS}{k:List (MG×J)}(h:AH w u B l top t d c n X C K F r p s gf op a b c' m i k){v:Y}{g:Nat}(f:Bp (λj=>j=g) u v)(z: ↑w+1<g)(x:∀j,Dt X C F j->j<g):AH w v B l top t d c n X C K F r p s gf op a b c' m i k:=by have y:=h.hM;exact⟨h.mb.eX f oM,h.own.eX f (λj q e=>by have:=x j q;omega),f.eP h.fb oM,f.eP h.ib oM,h.eX.trans f (λj q e=>oM),h.fh,h.fJ,h.hB,h.hM⟩
theorem AH.gU{e:Nat}{n:Int}{K:List MC}{s:J}{v:Nat}{p:VS}{l:List (MG×J)}(h:AH w u B e top t d c n X C K F s q v gf op a b c' p i l){g:Option Addr}{kl c2:Nat}(r:X.k=Z g m c2)(x:kl<= ↑K):AH w (Aa u ⟨e,5,M⟩ (Z g kl c2)) B e top t d c n ⟨X.c,Z g kl c2,X.f⟩ C (K.take kl) F s q v gf op a b c' p i l:=h.pop (h.mb.iO _) (GY (h.own.gU (jN h.hB h.eX.size) r x) h.mb) (Bp.setCell (R:= λj=>j=e) (Bp.refl _ u) (.inl rfl) _) (by rw[r];cases g<;>rfl)
theorem AH.js{z:Nat}{n:Int}{K:List MC}{L:J}{G P:Nat}{E:VS}{A:List (J×List MC)}{D:List (MG×J)}(h:AH w u B z top t d c n X C K F L G P gf op a b c' E A D){y:Y}(aa: ↑w+1<m)(Q:∀j,Dt X C F j->j<m)(I:Ab u m 193 2 x.2 x.1.a7 (Ad MC.cells x.1.a7)){v:J}(l:u.grownBy y X.f.ownBlock)(U:Ab y B 132 4 v (F.length+1) (Ad BG F++BG x))(p:v.ownBlock=X.f.ownBlock\/∀g,v.ownBlock=some g->m<=g):AH w (Aa y ⟨z,6,M⟩ v) B z top t d c n ⟨X.c,X.k,v⟩ C K (F++[x]) L G P gf op a b c' E A D:=by
 have hM:=h.hM;have hB:=h.hB;have W:=h.own.iQ oM Q I l U;have q:Bp (λj=>X.f.ownBlock=some j) u y:=⟨l.os,l.tape,l.output,l.size, λk R T=>l.block k R (λe=>T e.symm)⟩;have V:=h.own.iW h.mb;have N:=h.mb.eX q (λe=>V (.inr (.inr (.inl e))));have O:∀j,j=w.heap.size\/j=w.heap.size+1->¬X.f.ownBlock=some j:= λj i e=>by have:=h.fJ j (.inr (.inr (.inl e)));omega
 have H:∀j,Dt ⟨X.c,X.k,v⟩ C (F++[x]) j->Dt X C F j\/m<=j:= λj i=>by
  rcases i with e|e|e|e|⟨r,s,e⟩
  . exact .inl (.inl e)
  . exact .inl (.inr (.inl e))
  . rcases p with p|p
    . exact .inl (.inr (.inr (.inl (by rw[<-p];exact e))))
    exact .inr (p j e)
  . exact .inl (.inr (.inr (.inr (.inl e))))
  simp only[Bm,k8,lM,List.map_nil,jL,jK,jO,kM]at s;rcases s with s|rfl
  . exact .inl (.inr (.inr (.inr (.inr ⟨r,s,e⟩))))
  exact .inr (I.lt j e).1
 refine⟨N.jc v,GY W N,(q.eP h.fb (O _ (.inl rfl))).other oS _,(q.eP h.ib (O _ (.inr rfl))).other oS _,(h.eX.trans q (λj i e=>.inr (h.fh j (.inr (.inr (.inl e))) i))).setCell (.inl (.inl rfl)) _, λj i S=> ?_, λj i=> ?_,h.hB,h.hM⟩
 . rcases H j i with e|e
   . exact h.fh j e S
   omega
 rcases H j i with e|e
 . exact h.fJ j e
 omega
theorem AH.jy{i:Nat}{n:Int}{K:List MC}{l:J}{s y:Nat}{r:VS}{p:List (J×List MC)}{q:List (MG×J)}(h:AH w u B i top t d c n X C K F l s y gf op a b c' r p q){m:Y}(g:u.grownBy m X.f.ownBlock):BF m i t d c n X l:=h.mb.eX (R:= λj=>X.f.ownBlock=some j) ⟨g.os,g.tape,g.output,g.size, λk v x=>g.block k v (λe=>x e.symm)⟩ (λe=>h.own.iW h.mb (.inr (.inr (.inl e))))
theorem Wl(t:J)(ts:List Int)(m:Nat)(f: ↑ts=m)(w:Y)(g:m<=4194304)(d:Rd w 1 t m (Ad As ts)):
 Ai Aq 41 #[t] w λe b=>∃a c,e=Am (Z a m c)/\Ab b w 193 2 (Z a m c) m (Ad MC.cells (A9 ts))/\Ah w w b:=by
 subst f;exact KZ t ts w g d
theorem WK(ar:List MC)(B A top:Nat)(t:Int)(d:Bool)(c n:Int)(X:VS)(C:List (J×List MC))(K:List MC)(F:List (MG×J))(hv:J)(I L gf c3:Nat)(y:MG×J)(op a b c':Int)(w:Y)(hB:B<=w.heap.size)(h:AB w B X C (K++ar) F)(hm:BF w A t d c n X hv)(hF:F.length=top+1)(bV:top<=1048576)(hy:F[top]?=some y)(aS:X.f=Z (some ⟨gf,0,M⟩) (top+1) c3)(aR:K.length+ar.length<=1048576)(q:Nat)(ha:a=q)(i s:List Int)(aG:ar.length=i.length)(E G O:Nat)(bu:hv=Z (some ⟨E,0,M⟩) G O)(hq:q<G)(cT:G<=1048576)(k:Nat)(aK:(i++s).length=k)(pp tp:Option Addr)(pc tc:Nat)(hp:w.cell? ⟨E,q*9+4,M⟩=some (Z pp i.length pc))(ht:w.cell? ⟨E,q*9+8,M⟩=some (Z tp k tc))(aZ:Rd w 1 (Z tp k tc) k (Ad As (i++s)))(cU:k<=1048576):
 Ai Aq 112 #[.pointer (some ⟨A,0,M⟩),An #[.pointer (some ⟨I,L,M⟩),.pointer (some ⟨gf,top*4,M⟩)],An #[Ag Af op,Ag Af a,Ag Af b,Ag Af c']] w (λe w'=>∃vl,Cd w B A t d c n C K (F++[(⟨(q:Int),0,((K.length:Nat):Int),ar++A9 s⟩,vl)]) hv X C F e w'):=by
 subst ha bu;obtain⟨p,x2,x3⟩:=X;simp only[]at aS;subst aS;obtain⟨l,c2,e2⟩:=AF (h.eT.own (x2,K++ar) sP);simp only[]at e2;have br:(K++ar).length<=c2:=by have h2:=h.eT.own (x2,K++ar) sP;simp only[]at h2;rw[e2]at h2;exact Gx h2
 subst e2;obtain⟨kl,aq⟩:∃kl,K.length=kl:=⟨_,rfl⟩;have aE:(K++ar).length=kl+i.length:=by rw[jI,aq,aG]
 rw[aE]at h hm br⊢;rw[aq]at aR⊢;have T:Ae (K.length=kl/\ar.length=i.length/\(K++ar).length=kl+i.length):=⟨aq,aG,aE⟩
 have bY:kl+i.length<=1048576:=oM;have aQ:Ae ((i++s).length=k):=aK;have aX:i.length<=k:=by rw[<-aK,jI];omega
 clear aq aG aE aR aK;have E0:Ae (AH w (Ac (Ac w (Ak #[.pointer (some ⟨I,L,M⟩),.pointer (some ⟨gf,top*4,M⟩)] 143)) (Ak #[Ag Af op,Ag Af (q:Int),Ag Af b,Ag Af c'] 25)) B A top t d c n ⟨p,Z l (kl+i.length) c2,Z (some ⟨gf,0,M⟩) (top+1) c3⟩ C (K++ar) F (Z (some ⟨E,0,M⟩) G O) I L gf op q b c' ⟨p,Z l (kl+i.length) c2,Z (some ⟨gf,0,M⟩) (top+1) c3⟩ C F):=AH.of I L gf op q b c' hB h hm;have H:Ae (AB w B ⟨p,Z l (kl+i.length) c2,Z (some ⟨gf,0,M⟩) (top+1) c3⟩ C (K++ar) F/\F.length=top+1/\F[top]?=some y):=⟨h,hF,hy⟩
 clear h hm hy;go_enter func112,ntmps112;go_upto_region 1 with fail
 refine Av (λu=>Ae (AH w u B A top t d c n ⟨p,Z l (kl+i.length) c2,Z (some ⟨gf,0,M⟩) (top+1) c3⟩ C (K++ar) F (Z (some ⟨E,0,M⟩) G O) I L gf op q b c' ⟨p,Z l (kl+i.length) c2,Z (some ⟨gf,0,M⟩) (top+1) c3⟩ C F)/\Ah w.heap.size w u) ⟨E0,Ar (Al _ _) lR (Al _ _)⟩ ?_
 rintro U ⟨E1,bU⟩;clear E0;have bZ:=E1.o.hM;have aA:Ae (w.cell? ⟨E,q*9+4,M⟩=some (Z pp i.length pc)/\w.cell? ⟨E,q*9+8,M⟩=some (Z tp k tc)/\Rd w 1 (Z tp k tc) k (Ad As (i++s))):=⟨hp,ht,aZ⟩
 clear hp ht aZ;have cW:(q:Int)<(G:Int):=oM;have cY:IntKind.i64.wrap ((kl:Int)+(i.length:Int)-(i.length:Int))=(kl:Int):=by rw[lr _ oM];omega
 have cX:(kl:Int)+(i.length:Int)-(i.length:Int)=(kl:Int):=oM;have m7:=E1.o.mb.at.2.2.2.2.2.2.2;have i1:=E1.o.ib.cell 1;simp only[i5,f8,i6]at i1;have inst:=Ax.some U;have J0:= λn:Ax U=>Ax.cell m7 n
 have J1:= λn:Ax U=>Ax.cell i1 n
 go_wp2_with fail;refine AD kR kR ?_;repeat(go_big_quiet_step (fail))
 refine wpQuiet_nil ?_;rintro bP ⟨R,rfl⟩;have E2:Ae (AH w R.u B A top t d c n ⟨p,Z l (kl+i.length) c2,Z (some ⟨gf,0,M⟩) (top+1) c3⟩ C (K++ar) F (Z (some ⟨E,0,M⟩) G O) I L gf op q b c' ⟨p,Z l (kl+i.length) c2,Z (some ⟨gf,0,M⟩) (top+1) c3⟩ C F/\Ah w.heap.size w R.u):=⟨E1.o.av R.h,Ar bU lR R.h⟩
 clear J0 J1 inst m7 i1 E1 bU;go_upto_region 2 with fail
 generalize R.u=U2 at E2⊢;clear R;clear U;have m5:=E2.o.1.mb.at.2.2.2.2.2.1;have hp:=Au E2.o.2 aA.o.1;simp only[]at m5;have inst:=Ax.some U2;have J0:= λn:Ax U2=>Ax.cell m5 n
 have J1:= λn:Ax U2=>Ax.cell hp n
 go_wp2_with fail;refine AD kR kR ?_;repeat(go_big_quiet_step (fail))
 refine wpQuiet_nil ?_;rintro bP ⟨R,rfl⟩;have E3:Ae (AH w R.u B A top t d c n ⟨p,Z l (kl+i.length) c2,Z (some ⟨gf,0,M⟩) (top+1) c3⟩ C (K++ar) F (Z (some ⟨E,0,M⟩) G O) I L gf op q b c' ⟨p,Z l (kl+i.length) c2,Z (some ⟨gf,0,M⟩) (top+1) c3⟩ C F/\Ah w.heap.size w R.u):=⟨E2.o.1.av R.h,Ar E2.o.2 lR R.h⟩
 clear J0 J1 inst m5 hp E2;go_upto_region 3 with fail
 generalize R.u=U3 at E3⊢;clear R;clear U2;have ht:=Au E3.o.2 aA.o.2.1;go_wp2_with fail;refine(Wl (Z tp k tc) (i++s) k aQ.o U3 oM (aA.o.2.2.av E3.o.2 lR)).mono ?_;rintro e Q ⟨z,r,rfl,bg,b4⟩;have E4:Ae (AH w Q B A top t d c n ⟨p,Z l (kl+i.length) c2,Z (some ⟨gf,0,M⟩) (top+1) c3⟩ C (K++ar) F (Z (some ⟨E,0,M⟩) G O) I L gf op q b c' ⟨p,Z l (kl+i.length) c2,Z (some ⟨gf,0,M⟩) (top+1) c3⟩ C F/\Ab Q U3.heap.size 193 2 (Z z k r) k (Ad MC.cells (A9 (i++s)))/\∀j,Dt ⟨p,Z l (kl+i.length) c2,Z (some ⟨gf,0,M⟩) (top+1) c3⟩ C F j->j<U3.heap.size):=⟨E3.o.1.av b4,bg, λj S=>(E3.o.1.own.ltOf S).2⟩
 have hY:w.heap.size+1<U3.heap.size:=E3.o.1.ib.lt;have aF:U3.heap.size<=Q.heap.size:=b4.size;clear bg b4 ht E3;go_upto_region 4 with fail
 generalize U3.heap.size=D at E4 hY aF;have m5:=E4.o.1.mb.at.2.2.2.2.2.1;simp only[]at m5;have cJ:kl+i.length-kl=i.length:=oM;have cj:(kl:Int)<=(kl:Int)+(i.length:Int):=oM;have cH:(kl:Int)+(i.length:Int)<=(c2:Int):=oM;have cI:(kl:Int)<=(c2:Int):=oM;go_cut [] (λwx=>Ae (AH w wx B A top t d c n ⟨p,Z l (kl+i.length) c2,Z (some ⟨gf,0,M⟩) (top+1) c3⟩ C (K++ar) F (Z (some ⟨E,0,M⟩) G O) I L gf op q b c' ⟨p,Z l (kl+i.length) c2,Z (some ⟨gf,0,M⟩) (top+1) c3⟩ C F/\Ab wx D 193 2 (Z z k r) k (Ad MC.cells (ar++A9 s))/\(∀j,Dt ⟨p,Z l (kl+i.length) c2,Z (some ⟨gf,0,M⟩) (top+1) c3⟩ C F j->j<D)/\D<=wx.heap.size))
 case first=>
  by_cases aa:i.length=0
  . have ax:Ae (i.length=0):=aa;(have HE:Ae (A9 (i++s)=ar++A9 s):=by have e1:=jR aa;have e2:=jR (T.o.2.1.trans aa);show A9 (i++s)=ar++A9 s;rw[e1,e2];rfl);clear aa;have N:Ae (AH w Q B A top t d c n ⟨p,Z l (kl+i.length) c2,Z (some ⟨gf,0,M⟩) (top+1) c3⟩ C (K++ar) F (Z (some ⟨E,0,M⟩) G O) I L gf op q b c' ⟨p,Z l (kl+i.length) c2,Z (some ⟨gf,0,M⟩) (top+1) c3⟩ C F/\Ab Q D 193 2 (Z z k r) k (Ad MC.cells (ar++A9 s))/\(∀j,Dt ⟨p,Z l (kl+i.length) c2,Z (some ⟨gf,0,M⟩) (top+1) c3⟩ C F j->j<D)/\D<=Q.heap.size):=⟨E4.o.1,by have:=E4.o.2.1;rw[HE.o]at this;exact this,E4.o.2.2,aF⟩
    rcases Bi (E4.o.1.own.eT.own (Z l (kl+i.length) c2,K++ar) sP)with⟨e,e0⟩|⟨g2,bi,e⟩
    . simp only[i8]at e;obtain⟨rfl,bj,rfl⟩:=e;clear e0 bj;(have ae:= λty=>FE (P:=Aq) Q 45 45 ty 193 z M k r i.length 0 underlying45 kR (by have:=ax.o;simp[this]));go_wp2_with fail;go_meet;exact N
    simp only[i8]at e;obtain⟨rfl,hx,rfl⟩:=e;clear hx;by_cases aW:c2=kl
    . have cM:((c2:Int)==(kl:Int))=true:=oT;have cQ:(c2==kl)=true:=oT;have cR:c2-kl=0:=oM;clear aW;(have ae:= λty=>FE (P:=Aq) Q 45 45 ty 193 z (some ⟨g2,0,M⟩) k r i.length 0 underlying45 kR (by have:=ax.o;simp[this]));go_wp2_with fail;go_meet;exact N
    (have ae:= λty=>FE (P:=Aq) Q 45 45 ty 193 z (some ⟨g2,kl*2,M⟩) k r i.length (c2-kl) underlying45 kR (by have:=ax.o;simp[this]));go_wp2_with fail;go_meet;exact N
  have au:=E4.o.1.own.eT.own (Z l (kl+i.length) c2,K++ar) sP;rcases Bi au with⟨e,e0⟩|⟨g2,bi,e⟩
  . have:=T.o.2.2;simp only[]at e0;omega
  simp only[i8]at e;obtain⟨rfl,hx,rfl⟩:=e;clear hx;simp only[T.o.2.2]at au;rcases Bi E4.o.2.1 with⟨e,e0⟩|⟨gz,bT,e⟩
  . omega
  simp only[i8,kW]at e;obtain⟨rfl,rfl⟩:=e;obtain⟨bq,W,aj⟩:=Dz E4.o.2.1;have cg:=Gx E4.o.2.1;have aW:¬c2=kl:=oM;have ai:(Ad MC.cells ar).length=i.length*2:=by rw[AV MC.cells 2 MC.bW,T.o.2.1]
  have aM:=T2 (kl:=kl) (m:=i.length) (c':=c2-kl) (Rd.eS au) T.o.2.2 rfl;rw[show(K++ar).drop kl=ar by rw[<-T.o.1];exact List.drop_left]at aM;have bf:∀j v,(Ad MC.cells ar)[j]?=some v->Q.cell? ((⟨g2,kl*2,M⟩:Addr).add j)=some v:= λj v S=>by
   rcases aM.2 with⟨e,_⟩|⟨g',o',bQ,e,hc⟩
   . exact absurd e aa
   simp only[i8,jJ,lT,kW,mD]at e;obtain⟨⟨rfl,rfl⟩,_⟩:=e;rw[Cx];exact hc j v S
  have bC:i.length*2<=W.size:=by
   rcases E4.o.2.1.2 with⟨e,_⟩|⟨g',cap,bS,e,_,aH,cK,ce,bt,_⟩
   . cases e
   simp only[i8,jJ,lT,kW,mD]at e;obtain⟨rfl,rfl⟩:=e;rw[aj]at aH;simp only[jJ,lQ,mD]at aH;obtain rfl:=aH;rw[bt];exact Nat.mul_le_mul_right 2 oM
  have aJ:Nat.min i.length k=i.length:=Nat.min_eq_left aX;have ae:= λty=>NH (P:=Aq) Q 45 45 ty 193 gz 0 k r ⟨g2,kl*2,M⟩ i.length (c2-kl) W 193 (Ad MC.cells ar) underlying45 kR aj (by rw[aJ];exact ai) bf (by rw[ai];omega) (JI ar)
  have N:Ae (AH w (Q.setRow gz (W.toList.take 0++Ad MC.cells ar++W.toList.drop (0+(Ad MC.cells ar).length)).toArray) B A top t d c n ⟨p,Z (some ⟨g2,0,M⟩) (kl+i.length) c2,Z (some ⟨gf,0,M⟩) (top+1) c3⟩ C (K++ar) F (Z (some ⟨E,0,M⟩) G O) I L gf op q b c' ⟨p,Z (some ⟨g2,0,M⟩) (kl+i.length) c2,Z (some ⟨gf,0,M⟩) (top+1) c3⟩ C F/\Ab (Q.setRow gz (W.toList.take 0++Ad MC.cells ar++W.toList.drop (0+(Ad MC.cells ar).length)).toArray) D 193 2 (Z (some ⟨gz,0,M⟩) k r) k (Ad MC.cells (ar++A9 s))/\(∀j,Dt ⟨p,Z (some ⟨g2,0,M⟩) (kl+i.length) c2,Z (some ⟨gf,0,M⟩) (top+1) c3⟩ C F j->j<D)/\D<=(Q.setRow gz (W.toList.take 0++Ad MC.cells ar++W.toList.drop (0+(Ad MC.cells ar).length)).toArray).heap.size):=⟨E4.o.1.iU (Sr gz _ rfl) oM (λj S=>by have:=E4.o.2.2 j S;omega),by have h1:=Tc (cs:=Ad MC.cells ar) E4.o.2.1 aj (by rw[ai];exact Nat.mul_le_mul_right 2 aX);rw[R8 i s ar T.o.2.1]at h1;exact h1,E4.o.2.2,by rw[setRow_size];exact aF⟩
  generalize Q.setRow gz (W.toList.take 0++Ad MC.cells ar++W.toList.drop (0+(Ad MC.cells ar).length)).toArray=u5 at ae N;clear bf bC aM ai aj bq au;rw[aJ]at ae;clear aJ;go_wp2_with fail;go_meet;exact N
 case rest=>
  have N:Ae (AH w wc B A top t d c n ⟨p,Z l (kl+i.length) c2,Z (some ⟨gf,0,M⟩) (top+1) c3⟩ C (K++ar) F (Z (some ⟨E,0,M⟩) G O) I L gf op q b c' ⟨p,Z l (kl+i.length) c2,Z (some ⟨gf,0,M⟩) (top+1) c3⟩ C F/\Ab wc D 193 2 (Z z k r) k (Ad MC.cells (ar++A9 s))/\(∀j,Dt ⟨p,Z l (kl+i.length) c2,Z (some ⟨gf,0,M⟩) (top+1) c3⟩ C F j->j<D)/\D<=wc.heap.size):=hcut
  clear hcut E4 m5;have bx:kl<=(K++ar).length:=by rw[T.o.2.2];omega
  have m5:=N.o.1.mb.at.2.2.2.2.2.1;have bJ:=N.o.1.mb.frozen 5;simp only[]at m5;have E6:Ae (AH w (Aa wc ⟨A,5,M⟩ (Z l kl c2)) B A top t d c n ⟨p,Z l kl c2,Z (some ⟨gf,0,M⟩) (top+1) c3⟩ C K F (Z (some ⟨E,0,M⟩) G O) I L gf op q b c' ⟨p,Z l (kl+i.length) c2,Z (some ⟨gf,0,M⟩) (top+1) c3⟩ C F/\Ab (Aa wc ⟨A,5,M⟩ (Z l kl c2)) D 193 2 (Z z k r) k (Ad MC.cells (ar++A9 s))/\(∀j,Dt ⟨p,Z l kl c2,Z (some ⟨gf,0,M⟩) (top+1) c3⟩ C F j->j<D)/\D<=(Aa wc ⟨A,5,M⟩ (Z l kl c2)).heap.size):=by have h1:=N.o.1.gU (kl:=kl) rfl bx;(have h2:(K++ar).take kl=K:=by rw[<-T.o.1];exact List.take_left);rw[h2]at h1;refine⟨h1,kK N.o.2.1 (λe=>by have:=(N.o.2.1.lt _ e).1;simp only[]at this;omega) _, λj S=>N.o.2.2.1 j (S.stack (by cases l<;>rfl)),by rw[lk];exact N.o.2.2.2⟩
  go_upto_region 6 with fail
  refine Av (λu=>Ae (AH w u B A top t d c n ⟨p,Z l kl c2,Z (some ⟨gf,0,M⟩) (top+1) c3⟩ C K F (Z (some ⟨E,0,M⟩) G O) I L gf op q b c' ⟨p,Z l (kl+i.length) c2,Z (some ⟨gf,0,M⟩) (top+1) c3⟩ C F/\u.ownsRow D 193 2 (Z z k r) k (Ad MC.cells (ar++A9 s))/\(∀j,Dt ⟨p,Z l kl c2,Z (some ⟨gf,0,M⟩) (top+1) c3⟩ C F j->j<D)/\D<=u.heap.size)) E6 ?_
  rintro V E7;clear E6 N m5 bJ;obtain⟨j0,S,bG,bH,bI⟩:=km qs;have m6:=E7.o.1.mb.at.2.2.2.2.2.2.1;have i1:=E7.o.1.ib.cell 1;simp only[]at m6;simp only[i5,f8,i6]at i1;have bD:=At V;have bE:Ah V.heap.size V (V.alloc (Ak #[Ag Af (q:Int),Ag Af 0,Ag Af (kl:Int),Z z k r] 132)).drew:=Ar (Al _ _) lR (At _);have d9:=Au bD m6;have db:=Au bE m6;have cZ:=Au bD i1;have d8:=Au bE i1;have HC:Ae ((V.alloc (Ak #[Ag Af (q:Int),Ag Af 0,Ag Af (kl:Int),Z z k r] 132)).drew.ownsRow B 132 4 (Z (some ⟨gf,0,M⟩) (top+1) c3) (top+1) (Ad BG F)/\(∀j u,(BG (⟨(q:Int),0,(kl:Int),ar++A9 s⟩,Z z k r))[j]?=some u->(V.alloc (Ak #[Ag Af (q:Int),Ag Af 0,Ag Af (kl:Int),Z z k r] 132)).drew.cell? ((⟨V.heap.size,0,M⟩:Addr).add j)=some u)/\B<=(V.alloc (Ak #[Ag Af (q:Int),Ag Af 0,Ag Af (kl:Int),Z z k r] 132)).drew.heap.size/\AH w (V.alloc (Ak #[Ag Af (q:Int),Ag Af 0,Ag Af (kl:Int),Z z k r] 132)).drew B A top t d c n ⟨p,Z l kl c2,Z (some ⟨gf,0,M⟩) (top+1) c3⟩ C K F (Z (some ⟨E,0,M⟩) G O) I L gf op q b c' ⟨p,Z l (kl+i.length) c2,Z (some ⟨gf,0,M⟩) (top+1) c3⟩ C F/\(V.alloc (Ak #[Ag Af (q:Int),Ag Af 0,Ag Af (kl:Int),Z z k r] 132)).drew.ownsRow D 193 2 (Z z k r) k (Ad MC.cells (ar++A9 s))):=⟨by have h1:=AC E7.o.1.own.dk bE lR;simp only[]at h1;rw[H.o.2.1]at h1;exact h1, λj u S=>by have:=mU _ V.heap.size (0+j) _ _ _ (Fu V #[Ag Af (q:Int),Ag Af 0,Ag Af (kl:Int),Z z k r] 132);rw[Cx];show(V.alloc (Ak #[Ag Af (q:Int),Ag Af 0,Ag Af (kl:Int),Z z k r] 132)).cell? ⟨V.heap.size,0+j,M⟩=some u;rw[this,kT];simpa[BG]using S,jN hB (jN E7.o.1.eX.size bE.size),E7.o.1.av bE,AC E7.o.2.1 bE lR⟩
  have aO:Ae ((ar++A9 s).length=k/\D<=(V.alloc (Ak #[Ag Af (q:Int),Ag Af 0,Ag Af (kl:Int),Z z k r] 132)).drew.heap.size):=⟨by rw[jI,T.o.2.1,<-aQ.o,jI];simp[A9],jN E7.o.2.2.2 bE.size⟩
  clear m6 i1 bD bE;go_upto_region 6 with fail
  go_region_law (refine step_append_lies _ rfl (.tmp 60) (.tmp 66) 46 rfl B 132 j0 (An #[Ag Af 0,Ag Af 0,Ag Af 0,Z M 0 0]) 4 48 underlying46 S bG bH bI rfl dC (Z (some ⟨gf,0,M⟩) (top+1) c3) (top+1) (Ad BG F) oE HC.o.1 ⟨V.heap.size,0,M⟩ 1 1 (BG (⟨(q:Int),0,(kl:Int),ar++A9 s⟩,Z z k r)) oE rfl HC.o.2.1 (λu hu=>by simp[BG]at hu;rcases hu with rfl|rfl|rfl|rfl<;>rfl) oM oX oM HC.o.2.2.1 _ rfl ?_;intro gg cap u8 aY aI aT bB;have HN:Ae (AH w (Aa u8 ⟨A,6,none⟩ (Z (some ⟨gg,0,none⟩) (top+1+1) cap)) B A top t d c n ⟨p,Z l kl c2,Z (some ⟨gg,0,none⟩) (top+1+1) cap⟩ C K (F++[(⟨(q:Int),0,(kl:Int),ar++A9 s⟩,Z z k r)]) (Z (some ⟨E,0,none⟩) G O) I L gf op q b c' ⟨p,Z l (kl+i.length) c2,Z (some ⟨gf,0,none⟩) (top+1) c3⟩ C F/\BF u8 A t d c n ⟨p,Z l kl c2,Z (some ⟨gf,0,none⟩) (top+1) c3⟩ (Z (some ⟨E,0,none⟩) G O)):=⟨HC.o.2.2.2.1.js (x:=(⟨(q:Int),0,(kl:Int),ar++A9 s⟩,Z z k r)) hY E7.o.2.2.1 (by simp only[aO.o.1];exact HC.o.2.2.2.2) aI (by rw[H.o.2.1];exact aY) (aT.elim (λe=>.inl e.symm) (λe=>.inr (λg hg=>by simp only[Value.ownBlock,jJ]at hg;have:=aO.o.2;omega))),HC.o.2.2.2.1.jy aI⟩;have y0:=HN.o.2.at.2.2.2.2.2.2.1;have y1:=HN.o.2.frozen 6;simp only[]at y0;clear aY aI aT bB)
  all_goals
   go_wp2_with fail;exact lD (v:=Ap #[]) kR rfl ⟨_,HN.o.1.eY⟩
theorem OD{P:Program}(w:Y){f:Array Oper}{o:Oper}{a:Act}{K:Act->Y->Prop}{Q:Exit->Act->Y->Prop}{E:Prop}(u:o.guard=M)(l c:Operand)(t:Aj)(x:o.op=Op.makeSlice t l c)
 (base:Nat) (e:Aj) (i:TypeInfo) (z:J) (size:Nat) (k:P.underlying t=some (.slice e)) (m:P.info? e=some i) (p:i.zero=some z) (q:i.size=size)
 (kl d:IntKind) (n:Nat) (v:a.eval l=.int kl (n:Int)) (s:a.eval c=.int d (n:Int)) (g:i.bytes*n<=281474976710656) (h:n<=maxLen) (j:base<= ↑w)
 (r:∀b,b.ownsRow base e size (sG w n n) n (madeCells z.cells (n*size)).toList->w.grownBy b M->K (a.put o.dst (sG w n n)) b):
 if Region.wanted o (yielded f a.tmps)=true then Oper.wp P o a w K Q else E:=by
 have hw:Region.wanted o (yielded f a.tmps)=true:=by simp[Region.wanted,u]
 rw[jP hw];obtain⟨b,y,A,B⟩:=run_make_full (P:=P) w base t e i z size k m p q kl d n g h j;unfold Oper.wp;simp[execOp,x,v,s,y,Result.andThen];exact r b A B
structure NT(w u:Y)(QB GS n:Nat):Prop where
 mp:AP u QB 0 (.map [])
 sa:Ab u w 27 1 (sG GS n n) n (List.replicate n sN)
 cq:Ah w w u
 q1: ↑w<=QB
 q2:QB< ↑u
 g1: ↑w<=GS
 g2:GS< ↑u
 ne:QB≠GS
theorem NT.av{d:Y}{c b:Nat}(h:NT w u c b n)(a:Ah u u d):NT w d c b n:=⟨h.mp.av a,AC h.sa a lR,Ar h.cq lR a,h.q1,lA h.q2 a.size,h.g1,lA h.g2 a.size,h.ne⟩
theorem NT.ty{d:Nat}(h:NT w u m d n){bv:J}{a:Nat}(y:Ay u a #[v.r,v.k,v.f,v.t,g.p,f.cu,g.l,g.c,bv,.map (K m),sG d n n,iZ 0] 331)(C: ↑u=a+1)(B:m<a)(q:d<a)(hw: ↑w<=a):Gm w u v g f bv a m d n (a+1) 0 (List.replicate n sN) ⟨λ_=>false, λ_=>[],0⟩:=by
 have s:∀(j:Nat) (V:J),(List.replicate n (Z M 0 0))[j]?=K V->V=sN:= λj V e=>List.eq_of_mem_replicate (hC e)
 refine⟨y,⟨0,_,h.mp,Nat.le_refl _, λb=>rfl⟩,h.sa,sP, λj V e=> ?_,h.cq,⟨hw,h.q1,h.g1⟩,⟨oM,oM,h.ne,oM,oM,oM⟩,oM,sP, λj=>sP, λi j V W A x z g q=> ?_⟩
 . rw[s j V e];exact Hm.nil _ _
 rw[s i V x]at q;cases q
theorem Uf{q:Prop}(h:q:=by
 have hA:=Al U2 (Ak #[iZ 0] 2);have:=(E2.av hA).put (t:=0) (HM.1.av hA) HM.2.1 HM.2.2 hs3 hg3;have ew:(⟨Jd (λ_=>false) 0, λ_=>[],0⟩:WI)=Wo:=by unfold Wo Jd;congr 1
 rw[<-ew];exact this):q:=h
theorem NA(w:Y)(v:VP)(p:MP)(g:VF)(f:MF)(bv:J)(hP:ET w v p)(hF:FH w g f)(aM:∃a n c,bv=Z a n c)(aO:f.aU.length<=1024):
 Ai Aq 243 #[.agg #[v.r,v.k,v.f,v.t,g.p,f.cu,g.l,g.c],bv] w λe u=>∃TB QB GS B RS,e=Am (.pointer (K ⟨TB,0,M⟩))/\Gm w u v g f bv TB QB GS f.aU.length B 1 RS Wo:=by
 obtain⟨C,E,z,A,F,G,f1,f3,rfl⟩:=hP.sl;obtain⟨i,j,m,q,s,y,rfl⟩:=I8 hF;obtain⟨l0,hl,aI,aJ,aK⟩:=km SR;obtain⟨H,I,bc,rfl⟩:=aM;have aQ:= @run_makeMap Aq;clear hP hF;go_enter func243,ntmps243;go_upto_region 1 with fail
 refine Av (λu=>Ae (Ay u w #[Z C p.az E,Z z p.b8 A,Z f1 p.aB f3,Z F p.bO G,Z i f.aD j,f.cu,Z m f.a7 q,Z s f.aU y] 109/\Ah w w u)) ⟨Ay.new _ _ _,Al _ _⟩ ?_
 rintro U E1;have HR:=Aw (fd (E1.1.av (At _)) (Ar E1.2 lR (At _)));clear E1;have b0:U.drew w=K (Z C p.az E)/\U.drew ⟨w,1,M⟩=K (Z z p.b8 A)/\U.drew ⟨w,2,M⟩=K (Z f1 p.aB f3)/\U.drew ⟨w,3,M⟩=K (Z F p.bO G)/\U.drew ⟨w,4,M⟩=K (Z i f.aD j)/\U.drew ⟨w,5,M⟩=K ↑f.cu/\U.drew ⟨w,6,M⟩=K (Z m f.a7 q)/\U.drew ⟨w,7,M⟩=K (Z s f.aU y):=by obtain⟨R,T,V,W,X,q5,q6,q7⟩:=LK HR.1;exact⟨R,T,V,W,X,q5,q6,q7⟩
 refine wp_region_held_drew (S:= λw'=>w' w=K (Z C p.az E)/\w' ⟨w,1,M⟩=K (Z z p.b8 A)/\w' ⟨w,2,M⟩=K (Z f1 p.aB f3)/\w' ⟨w,3,M⟩=K (Z F p.bO G)/\w' ⟨w,4,M⟩=K (Z i f.aD j)/\w' ⟨w,5,M⟩=K ↑f.cu/\w' ⟨w,6,M⟩=K (Z m f.a7 q)/\w' ⟨w,7,M⟩=K (Z s f.aU y)) kR b0 (λae=> ?_)
 clear b0;generalize U.drew=b at HR ae⊢;refine A5 0 ?_;refine A5 1 ?_;refine A5 3 ?_;refine A5 4 ?_;refine A5 5 ?_;refine A5 6 ?_;go_simp;refine wpAnyH_ready (rs:=[2,7]) kR sP ?_;refine AllReadyH.cons rfl (λKC N=> ?_) ?_
 . have hA:=Al b (.map #[] 0);have Q:Ae (AP (Ac b (.map #[] 0)) b 0 (.map [])/\Ay (Ac b (.map #[] 0)) w #[Z C p.az E,Z z p.b8 A,Z f1 p.aB f3,Z F p.bO G,Z i f.aD j,f.cu,Z m f.a7 q,Z s f.aU y] 109/\Ah w w (Ac b (.map #[] 0))):=⟨World.ownsMap_made _ _ _ _,HR.1.av hA,Ar HR.2 lR hA⟩
   have b1:(Ac b (.map #[] 0)) w=K (Z C p.az E)/\(Ac b (.map #[] 0)) ⟨w,1,M⟩=K (Z z p.b8 A)/\(Ac b (.map #[] 0)) ⟨w,2,M⟩=K (Z f1 p.aB f3)/\(Ac b (.map #[] 0)) ⟨w,3,M⟩=K (Z F p.bO G)/\(Ac b (.map #[] 0)) ⟨w,4,M⟩=K (Z i f.aD j)/\(Ac b (.map #[] 0)) ⟨w,5,M⟩=K ↑f.cu/\(Ac b (.map #[] 0)) ⟨w,6,M⟩=K (Z m f.a7 q)/\(Ac b (.map #[] 0)) ⟨w,7,M⟩=K (Z s f.aU y):=by obtain⟨R,T,V,W,X,q5,q6,q7⟩:=LK Q.2.1;exact⟨R,T,V,W,X,q5,q6,q7⟩
   go_simp;refine N.o _ _ b1 (λae=> ?_);clear N KC b1 hA;refine DU 7 ?_;intro KC N;refine OD _ rfl _ _ 28 rfl w 27 l0 sN 1 underlying28 hl aI aJ Af Af f.aU oE oE (by rw[aK];omega) oX Q.2.2.size ?_;intro L au aH;rw[Ii]at au;have P:Ae (NT w L b ((b:Nat)+1) f.aU/\Ay L w #[Z C p.az E,Z z p.b8 A,Z f1 p.aB f3,Z F p.bO G,Z i f.aD j,f.cu,Z m f.a7 q,Z s f.aU y] 109):=by
    have b2:=BW aH;have aA:=(au.lt _ rfl).2;have hz:(Ac b (.map #[] 0)).heap.size= ↑b+1:=sP
    simp only[]at aA;rw[hz]at au aA;exact⟨⟨Q.1.av b2,au,Ar Q.2.2 lR b2,HR.2.size,oM,by have:=HR.2.size;omega,aA,oM⟩,Q.2.1.av b2⟩
   have b1:L w=K (Z C p.az E)/\L ⟨w,1,M⟩=K (Z z p.b8 A)/\L ⟨w,2,M⟩=K (Z f1 p.aB f3)/\L ⟨w,3,M⟩=K (Z F p.bO G)/\L ⟨w,4,M⟩=K (Z i f.aD j)/\L ⟨w,5,M⟩=K ↑f.cu/\L ⟨w,6,M⟩=K (Z m f.a7 q)/\L ⟨w,7,M⟩=K (Z s f.aU y):=by obtain⟨R,T,V,W,X,q5,q6,q7⟩:=LK P.2;exact⟨R,T,V,W,X,q5,q6,q7⟩
   clear au aH Q;go_simp;refine N.o _ _ b1 (λae=> ?_);clear N KC b1;refine A5 8 ?_;refine DU 9 ?_;intro KC N;(have aa:(L:Nat)=L.heap.size:=by first|rfl|simp);have O:=Aw (fd (sP:(Ac L (Ak #[Z C p.az E,Z z p.b8 A,Z f1 p.aB f3,Z F p.bO G,Z i f.aD j,f.cu,Z m f.a7 q,Z s f.aU y,Z H I bc,.map (K b),Z (K ⟨((b:Nat)+1),0,M⟩) f.aU f.aU,iZ 0] 331)).heap.size= ↑L+1) (fd ((aa▸Ay.new _ _ _):Ay (Ac L (Ak #[Z C p.az E,Z z p.b8 A,Z f1 p.aB f3,Z F p.bO G,Z i f.aD j,f.cu,Z m f.a7 q,Z s f.aU y,Z H I bc,.map (K b),Z (K ⟨((b:Nat)+1),0,M⟩) f.aU f.aU,iZ 0] 331)) L #[Z C p.az E,Z z p.b8 A,Z f1 p.aB f3,Z F p.bO G,Z i f.aD j,f.cu,Z m f.a7 q,Z s f.aU y,Z H I bc,.map (K b),Z (K ⟨((b:Nat)+1),0,M⟩) f.aU f.aU,iZ 0] 331) (fd ((P.1.av (Al _ _)):NT w (Ac L (Ak #[Z C p.az E,Z z p.b8 A,Z f1 p.aB f3,Z F p.bO G,Z i f.aD j,f.cu,Z m f.a7 q,Z s f.aU y,Z H I bc,.map (K b),Z (K ⟨((b:Nat)+1),0,M⟩) f.aU f.aU,iZ 0] 331)) b ((b:Nat)+1) f.aU) (fd (aa▸P.1.q2) (fd (aa▸P.1.g2) (aa▸P.1.cq.size))))))
   have ai:(Ac L (Ak #[Z C p.az E,Z z p.b8 A,Z f1 p.aB f3,Z F p.bO G,Z i f.aD j,f.cu,Z m f.a7 q,Z s f.aU y,Z H I bc,.map (K b),Z (K ⟨((b:Nat)+1),0,M⟩) f.aU f.aU,iZ 0] 331)) w=K (Z C p.az E)/\(Ac L (Ak #[Z C p.az E,Z z p.b8 A,Z f1 p.aB f3,Z F p.bO G,Z i f.aD j,f.cu,Z m f.a7 q,Z s f.aU y,Z H I bc,.map (K b),Z (K ⟨((b:Nat)+1),0,M⟩) f.aU f.aU,iZ 0] 331)) ⟨w,1,M⟩=K (Z z p.b8 A)/\(Ac L (Ak #[Z C p.az E,Z z p.b8 A,Z f1 p.aB f3,Z F p.bO G,Z i f.aD j,f.cu,Z m f.a7 q,Z s f.aU y,Z H I bc,.map (K b),Z (K ⟨((b:Nat)+1),0,M⟩) f.aU f.aU,iZ 0] 331)) ⟨w,2,M⟩=K (Z f1 p.aB f3)/\(Ac L (Ak #[Z C p.az E,Z z p.b8 A,Z f1 p.aB f3,Z F p.bO G,Z i f.aD j,f.cu,Z m f.a7 q,Z s f.aU y,Z H I bc,.map (K b),Z (K ⟨((b:Nat)+1),0,M⟩) f.aU f.aU,iZ 0] 331)) ⟨w,3,M⟩=K (Z F p.bO G)/\(Ac L (Ak #[Z C p.az E,Z z p.b8 A,Z f1 p.aB f3,Z F p.bO G,Z i f.aD j,f.cu,Z m f.a7 q,Z s f.aU y,Z H I bc,.map (K b),Z (K ⟨((b:Nat)+1),0,M⟩) f.aU f.aU,iZ 0] 331)) ⟨w,4,M⟩=K (Z i f.aD j)/\(Ac L (Ak #[Z C p.az E,Z z p.b8 A,Z f1 p.aB f3,Z F p.bO G,Z i f.aD j,f.cu,Z m f.a7 q,Z s f.aU y,Z H I bc,.map (K b),Z (K ⟨((b:Nat)+1),0,M⟩) f.aU f.aU,iZ 0] 331)) ⟨w,5,M⟩=K ↑f.cu/\(Ac L (Ak #[Z C p.az E,Z z p.b8 A,Z f1 p.aB f3,Z F p.bO G,Z i f.aD j,f.cu,Z m f.a7 q,Z s f.aU y,Z H I bc,.map (K b),Z (K ⟨((b:Nat)+1),0,M⟩) f.aU f.aU,iZ 0] 331)) ⟨w,6,M⟩=K (Z m f.a7 q)/\(Ac L (Ak #[Z C p.az E,Z z p.b8 A,Z f1 p.aB f3,Z F p.bO G,Z i f.aD j,f.cu,Z m f.a7 q,Z s f.aU y,Z H I bc,.map (K b),Z (K ⟨((b:Nat)+1),0,M⟩) f.aU f.aU,iZ 0] 331)) ⟨w,7,M⟩=K (Z s f.aU y):=by
    obtain⟨R,T,V,W,X,q5,q6,q7⟩:=LK (P.2.av (Al L (Ak #[Z C p.az E,Z z p.b8 A,Z f1 p.aB f3,Z F p.bO G,Z i f.aD j,f.cu,Z m f.a7 q,Z s f.aU y,Z H I bc,.map (K b),Z (K ⟨((b:Nat)+1),0,M⟩) f.aU f.aU,iZ 0] 331)));exact⟨R,T,V,W,X,q5,q6,q7⟩
   go_simp;refine N.o _ _ ai (λae=> ?_);clear N KC;refine A5 10 ?_;refine wpAnyH_done kR ?_ _;clear ae ai;(go_upto_region 2 with fail);refine Av (λu=>Ae (Gm w u ⟨Z C p.az E,Z z p.b8 A,Z f1 p.aB f3,Z F p.bO G⟩ ⟨Z i f.aD j,Z m f.a7 q,Z s f.aU y⟩ f (Z H I bc) L b ((b:Nat)+1) f.aU ((L:Nat)+1) 0 (List.replicate f.aU sN) ⟨λ_=>false, λ_=>[],0⟩)) (O.2.2.1.ty O.2.1 O.1 O.2.2.2.1 O.2.2.2.2.1 O.2.2.2.2.2) ?_;rintro U2 E2;clear O P aa;generalize L.heap.size=TB at E2⊢;have c9:=E2.tb.cell 9;simp only[i5,f8,i6]at c9;obtain⟨aF,D,ax,aj,aq⟩:=E2.mp;have HM:=Aw (fd ax (fd aj aq));clear ax aj aq;go_wp2_with fail;refine(Dh b aF U2 1 D 0 _ (Dm (x:=0) oM) (by have:=HM.2.1;omega) sP (by have:=E2.ne;have:=E2.sz;omega) (HM.1.av (Al _ _))).mono ?_;rintro e u3 ⟨rfl,hs3,hg3⟩;(have E3:Ae (Gm w u3 ⟨Z C p.az E,Z z p.b8 A,Z f1 p.aB f3,Z F p.bO G⟩ ⟨Z i f.aD j,Z m f.a7 q,Z s f.aU y⟩ f (Z H I bc) TB b ((b:Nat)+1) f.aU (TB+1) 1 (List.replicate f.aU sN) Wo):=by exact Uf);clear hs3 hg3 HM c9;go_wp2_with fail;go_ret;exact⟨TB,_,_,_,_,rfl,E3⟩
 refine AllReadyH.cons rfl (λKC N=> ?_) AllReadyH.nil;refine OD _ rfl _ _ 28 rfl w 27 l0 sN 1 underlying28 hl aI aJ Af Af f.aU oE oE (by rw[aK];omega) oX HR.2.size ?_;intro d aE aG;rw[Ii]at aE;have Q:Ae (Ab d w 27 1 (sG b f.aU f.aU) f.aU (List.replicate f.aU sN)/\Ay d w #[Z C p.az E,Z z p.b8 A,Z f1 p.aB f3,Z F p.bO G,Z i f.aD j,f.cu,Z m f.a7 q,Z s f.aU y] 109/\Ah w w d/\(b:Nat)< ↑d):=by have b2:=BW aG;have aA:=(aE.lt _ rfl).2;exact⟨aE,HR.1.av b2,Ar HR.2 lR b2,aA⟩
 have b1:d w=K (Z C p.az E)/\d ⟨w,1,M⟩=K (Z z p.b8 A)/\d ⟨w,2,M⟩=K (Z f1 p.aB f3)/\d ⟨w,3,M⟩=K (Z F p.bO G)/\d ⟨w,4,M⟩=K (Z i f.aD j)/\d ⟨w,5,M⟩=K ↑f.cu/\d ⟨w,6,M⟩=K (Z m f.a7 q)/\d ⟨w,7,M⟩=K (Z s f.aU y):=by obtain⟨R,T,V,W,X,q5,q6,q7⟩:=LK Q.2.1;exact⟨R,T,V,W,X,q5,q6,q7⟩
 clear aE aG;go_simp;refine N.o _ _ b1 (λae=> ?_);clear N KC b1;refine DU 2 ?_;intro KC N;have hA:=Al d (.map #[] 0);have P:Ae (NT w (Ac d (.map #[] 0)) d b f.aU/\Ay (Ac d (.map #[] 0)) w #[Z C p.az E,Z z p.b8 A,Z f1 p.aB f3,Z F p.bO G,Z i f.aD j,f.cu,Z m f.a7 q,Z s f.aU y] 109):=by have l1:=Q.2.2.2;have l2:=Q.2.2.1.size;have l3:=HR.2.size;exact⟨⟨World.ownsMap_made _ _ _ _,AC Q.1 hA lR,Ar Q.2.2.1 lR hA,l2,sP,l3,oT,oM⟩,Q.2.1.av hA⟩
 have b1:(Ac d (.map #[] 0)) w=K (Z C p.az E)/\(Ac d (.map #[] 0)) ⟨w,1,M⟩=K (Z z p.b8 A)/\(Ac d (.map #[] 0)) ⟨w,2,M⟩=K (Z f1 p.aB f3)/\(Ac d (.map #[] 0)) ⟨w,3,M⟩=K (Z F p.bO G)/\(Ac d (.map #[] 0)) ⟨w,4,M⟩=K (Z i f.aD j)/\(Ac d (.map #[] 0)) ⟨w,5,M⟩=K ↑f.cu/\(Ac d (.map #[] 0)) ⟨w,6,M⟩=K (Z m f.a7 q)/\(Ac d (.map #[] 0)) ⟨w,7,M⟩=K (Z s f.aU y):=by obtain⟨R,T,V,W,X,q5,q6,q7⟩:=LK P.2;exact⟨R,T,V,W,X,q5,q6,q7⟩
 go_simp;refine N.o _ _ b1 (λae=> ?_);clear N KC b1 hA Q;refine A5 8 ?_;refine DU 9 ?_;intro KC N;have aa:(Ac d (.map #[] 0)).heap.size=((d:Nat)+1):=by first|rfl|simp
 have O:=Aw (fd (sP:(Ac (Ac d (.map #[] 0)) (Ak #[Z C p.az E,Z z p.b8 A,Z f1 p.aB f3,Z F p.bO G,Z i f.aD j,f.cu,Z m f.a7 q,Z s f.aU y,Z H I bc,.map (K d),sG b f.aU f.aU,iZ 0] 331)).heap.size=((d:Nat)+1)+1) (fd ((aa▸Ay.new _ _ _):Ay (Ac (Ac d (.map #[] 0)) (Ak #[Z C p.az E,Z z p.b8 A,Z f1 p.aB f3,Z F p.bO G,Z i f.aD j,f.cu,Z m f.a7 q,Z s f.aU y,Z H I bc,.map (K d),sG b f.aU f.aU,iZ 0] 331)) ((d:Nat)+1) #[Z C p.az E,Z z p.b8 A,Z f1 p.aB f3,Z F p.bO G,Z i f.aD j,f.cu,Z m f.a7 q,Z s f.aU y,Z H I bc,.map (K d),sG b f.aU f.aU,iZ 0] 331) (fd ((P.1.av (Al _ _)):NT w (Ac (Ac d (.map #[] 0)) (Ak #[Z C p.az E,Z z p.b8 A,Z f1 p.aB f3,Z F p.bO G,Z i f.aD j,f.cu,Z m f.a7 q,Z s f.aU y,Z H I bc,.map (K d),sG b f.aU f.aU,iZ 0] 331)) d b f.aU) (fd (aa▸P.1.q2) (fd (aa▸P.1.g2) (aa▸P.1.cq.size))))))
 have ai:(Ac (Ac d (.map #[] 0)) (Ak #[Z C p.az E,Z z p.b8 A,Z f1 p.aB f3,Z F p.bO G,Z i f.aD j,f.cu,Z m f.a7 q,Z s f.aU y,Z H I bc,.map (K d),sG b f.aU f.aU,iZ 0] 331)) w=K (Z C p.az E)/\(Ac (Ac d (.map #[] 0)) (Ak #[Z C p.az E,Z z p.b8 A,Z f1 p.aB f3,Z F p.bO G,Z i f.aD j,f.cu,Z m f.a7 q,Z s f.aU y,Z H I bc,.map (K d),sG b f.aU f.aU,iZ 0] 331)) ⟨w,1,M⟩=K (Z z p.b8 A)/\(Ac (Ac d (.map #[] 0)) (Ak #[Z C p.az E,Z z p.b8 A,Z f1 p.aB f3,Z F p.bO G,Z i f.aD j,f.cu,Z m f.a7 q,Z s f.aU y,Z H I bc,.map (K d),sG b f.aU f.aU,iZ 0] 331)) ⟨w,2,M⟩=K (Z f1 p.aB f3)/\(Ac (Ac d (.map #[] 0)) (Ak #[Z C p.az E,Z z p.b8 A,Z f1 p.aB f3,Z F p.bO G,Z i f.aD j,f.cu,Z m f.a7 q,Z s f.aU y,Z H I bc,.map (K d),sG b f.aU f.aU,iZ 0] 331)) ⟨w,3,M⟩=K (Z F p.bO G)/\(Ac (Ac d (.map #[] 0)) (Ak #[Z C p.az E,Z z p.b8 A,Z f1 p.aB f3,Z F p.bO G,Z i f.aD j,f.cu,Z m f.a7 q,Z s f.aU y,Z H I bc,.map (K d),sG b f.aU f.aU,iZ 0] 331)) ⟨w,4,M⟩=K (Z i f.aD j)/\(Ac (Ac d (.map #[] 0)) (Ak #[Z C p.az E,Z z p.b8 A,Z f1 p.aB f3,Z F p.bO G,Z i f.aD j,f.cu,Z m f.a7 q,Z s f.aU y,Z H I bc,.map (K d),sG b f.aU f.aU,iZ 0] 331)) ⟨w,5,M⟩=K ↑f.cu/\(Ac (Ac d (.map #[] 0)) (Ak #[Z C p.az E,Z z p.b8 A,Z f1 p.aB f3,Z F p.bO G,Z i f.aD j,f.cu,Z m f.a7 q,Z s f.aU y,Z H I bc,.map (K d),sG b f.aU f.aU,iZ 0] 331)) ⟨w,6,M⟩=K (Z m f.a7 q)/\(Ac (Ac d (.map #[] 0)) (Ak #[Z C p.az E,Z z p.b8 A,Z f1 p.aB f3,Z F p.bO G,Z i f.aD j,f.cu,Z m f.a7 q,Z s f.aU y,Z H I bc,.map (K d),sG b f.aU f.aU,iZ 0] 331)) ⟨w,7,M⟩=K (Z s f.aU y):=by
  obtain⟨R,T,V,W,X,q5,q6,q7⟩:=LK (P.2.av (Al (Ac d (.map #[] 0)) (Ak #[Z C p.az E,Z z p.b8 A,Z f1 p.aB f3,Z F p.bO G,Z i f.aD j,f.cu,Z m f.a7 q,Z s f.aU y,Z H I bc,.map (K d),sG b f.aU f.aU,iZ 0] 331)));exact⟨R,T,V,W,X,q5,q6,q7⟩
 go_simp;refine N.o _ _ ai (λae=> ?_);clear N KC;refine A5 10 ?_;refine wpAnyH_done kR ?_ _;clear ae ai;go_upto_region 2 with fail
 refine Av (λu=>Ae (Gm w u ⟨Z C p.az E,Z z p.b8 A,Z f1 p.aB f3,Z F p.bO G⟩ ⟨Z i f.aD j,Z m f.a7 q,Z s f.aU y⟩ f (Z H I bc) ((d:Nat)+1) d b f.aU (((d:Nat)+1)+1) 0 (List.replicate f.aU sN) ⟨λ_=>false, λ_=>[],0⟩)) (O.2.2.1.ty O.2.1 O.1 O.2.2.2.1 O.2.2.2.2.1 O.2.2.2.2.2) ?_;rintro U2 E2;clear O P aa;generalize (d.heap.size+1)=TB at E2⊢;have c9:=E2.tb.cell 9;simp only[i5,f8,i6]at c9;obtain⟨aF,D,ax,aj,aq⟩:=E2.mp;have HM:=Aw (fd ax (fd aj aq));clear ax aj aq;go_wp2_with fail;refine(Dh d aF U2 1 D 0 _ (Dm (x:=0) oM) (by have:=HM.2.1;omega) sP (by have:=E2.ne;have:=E2.sz;omega) (HM.1.av (Al _ _))).mono ?_;rintro e u3 ⟨rfl,hs3,hg3⟩;have E3:Ae (Gm w u3 ⟨Z C p.az E,Z z p.b8 A,Z f1 p.aB f3,Z F p.bO G⟩ ⟨Z i f.aD j,Z m f.a7 q,Z s f.aU y⟩ f (Z H I bc) TB d b f.aU (TB+1) 1 (List.replicate f.aU sN) Wo):=by exact Uf
 clear hs3 hg3 HM c9;go_wp2_with fail;go_ret;exact⟨TB,_,_,_,_,rfl,E3⟩
theorem Yq(p:MP)(f:MF)(c:Nat):∀(a:Nat) (d:List Int) (T:Nat->List Int) (D:Nat),(∀j,(T j).length<=D)->d.length<=D->∀s2 e b,DV p f c a d T D=.inr (s2,e,b)->(∀j,(e j).length<=b)/\s2.length<=b:=by
 induction c with
 | zero=>intro a d T D g i s2 e b h;simp only[DV,Sum.inr.injEq,Prod.mk.injEq]at h;obtain⟨rfl,rfl,rfl⟩:=h;exact⟨g,i⟩
 | succ c l=>
   intro a d T D g i s2 e b h;cases hx:f.aU[a]? with
   | none=>simp only[DV,hx,Sum.inr.injEq,Prod.mk.injEq]at h;obtain⟨rfl,rfl,rfl⟩:=h;exact⟨g,i⟩
   | some x=>
     simp only[DV,hx]at h;by_cases k:BJ p f x d=0
     . rw[jP k]at h;refine l _ _ _ _ (λj=> ?_) oM _ _ _ h;simp only[Ec];split
       . omega
       have:=g j;omega
     rw[jH k]at h;cases h
theorem Vu{e:List MB}{d:List Int}{D:Nat}(f: ↑d<=D)(nx:List Nat):∀(C:Nat->Bool) (R:Nat->List Int),(∀j,(R j).length<=D)->∀C2 a,Ff e nx d C R=K (C2,a)->∀j,(a j).length<=D:=by
 induction nx with
 | nil=>intro C R b C2 a h;simp only[Ff,jJ,Prod.mk.injEq]at h;rw[<-h.2];exact b
 | cons t nx c=>
   intro C R b C2 a h;rw[Ff]at h;split at h
   . split at h
     . exact c _ _ b _ _ h
     cases h
   refine c _ _ (λj=> ?_) _ _ h;simp only[Ec];split
   . exact f
   exact b j
theorem VZ{a:List MB}{m:MB}{s':WI}(b:∀j,(s.r j).length<=s.d)(h:Hd p f a m s=.inr s'):∀j,(s'.r j).length<=s'.d:=by
 unfold Hd at h;cases hk:DV p f (m.last-m.cz+1).toNat m.cz.toNat (s.r m.cz.toNat) s.r s.d with
 |inl e=>rw[hk]at h;cases h
 | inr q=>
   obtain⟨k,R,D⟩:=q;rw[hk]at h;obtain⟨g,i⟩:=Yq p f _ _ _ _ _ b (b _) _ _ _ hk;simp only[]at h;cases hm:Ff a (m.next.map Int.toNat) k s.c R with
   |none=>rw[hm]at h;cases h
   | some q=>obtain⟨C2,l⟩:=q;rw[hm]at h;simp only[Sum.inr.injEq]at h;subst h;exact Vu i _ _ _ g _ _ hm
theorem Ys{a:List MB}{c:List Int}{b:Nat}{z:Int}{m:MB}{d:OV}(h:Ic p f a ((c.map Int.toNat).drop k) s=d)(j:c[k]?=K z)(g:z=(b:Int))(i:a[b]?=K m):(match Hd p f a m s with|.inl e=>Sum.inl e|.inr s'=>Ic p f a ((c.map Int.toNat).drop (k+1)) s')=d:=by
 have e:(c.map Int.toNat)[k]?=K b:=by rw[jY,j,g];simp
 rw[TK e,Ic,i]at h;exact h
theorem Qj.av{b:Y}(h:Qj w v p g f)(a:Ah w w b):Qj b v p g f:=⟨h.ps,h.pf,h.fs,h.rp.av a lR,h.rf.av a lR,h.c1,h.cl,h.pl,h.ok,h.last⟩
theorem JU.jq{e:Y}{b d c:J}(h:JU w b d c vl r)(a:Ah w w e):JU e b d c vl r:=⟨h.aC.av a lR,h.dr.av a lR,h.eU.av a lR,h.cv.av a lR⟩
theorem VT{i k j:J}(h:JU w i k j vl r):∃d c1 e c2 f c3 g c4,i=Z d r.aC c1/\k=Z e r.dr c2/\j=Z f r.eU c3/\vl=Z g r.cv c4:=by
 obtain⟨d,c1,l⟩:∃a c,i=Z a r.aC c:=by obtain⟨_,_,b,_⟩:=h.aC;exact b.aP
 obtain⟨e,c2,m⟩:=h.dr.aP;obtain⟨f,c3,n⟩:=h.eU.aP;obtain⟨g,c4,p⟩:∃a c,vl=Z a r.cv c:=by obtain⟨_,_,b,_⟩:=h.cv;exact b.aP
 exact⟨d,c1,e,c2,f,c3,g,c4,l,m,n,p⟩
structure qQ(xs:List MI)(r:Ee):Prop where
 eP:P8 xs r.aC
 nb:r.aC.length<=1024
 two:∀m∈r.aC,m.next.length<=2
 len:r.dr.length<=1024
 ord:∀z∈r.dr,∃b:Nat,z=(b:Int)/\b< ↑r.aC
 j9:∀(b:Nat) (m:MB),r.aC[b]?=K m->∀z∈m.next,∃t:Nat,z=(t:Int)/\t< ↑r.aC
theorem Bl.jB{xs:List MI}(h:Bl xs r)(a:r.aU=0):qQ xs r:=by
 have d:=h.fh a;cases h with
 |none _=>cases a
 |off _ _ _=>cases a
 |lost _ _ _ _ _ _ _ _=>cases a
 |two _ _ _ _ _ _ _ _=>cases a
 | good g x1 o1 v1 s1 d1 b1 i1 l1=>
   obtain⟨n,p,i,k,_⟩:=DR (GR g) (Mv g) v1 s1;refine⟨Qs g,d.nb,d.two,?_, λz c=> ?_, λb m j z c=> ?_⟩
   . simp only[];rw[A4,lB,i];exact GE g
   . obtain⟨b,f,rfl⟩:=kI.1 c;exact⟨b,rfl,(k b).1 (kx.1 f)⟩
   obtain⟨e,l⟩:=Jc g j c;exact⟨z.toNat,(mZ e).symm,oS⟩
def TyO(w:Y)(y:Qh)(e:Ending)(a:Y):Prop:=∃(s:J) (F:List (List Int×J)),e=Am (An #[y.aU,y.at_,y.depth,s])/\K6 a w s F/\F.map Prod.fst=y.dT/\F.length<=1024/\(∀x∈F,x.1.length<=64)/\Ah w w a
theorem X7(u:Y)(b:Nat):K6 u b sN []:=⟨kH _ _ _ _,⟨λx a=>(by cases a),.nil⟩⟩
theorem Gm.told{bv:J}{F E t N:Nat}{b:List J}(h:Gm w u v g f bv F E t n B N b s){X:Nat}(H:base<= ↑w)(W:X< ↑w)(T U V x3:J):K6 (Aa (Aa (Aa (u.setCell X T) ⟨X,1,M⟩ U) ⟨X,2,M⟩ V) ⟨X,3,M⟩ x3) base (sG t n n) (((List.range n).map s.r).zip b)/\(((List.range n).map s.r).zip b).map Prod.fst=(List.range n).map s.r/\(((List.range n).map s.r).zip b).length=n/\∀x∈((List.range n).map s.r).zip b,x.1.length<=64:=by
 obtain⟨n1,n2,n3,n4,n5,n6⟩:=h.ne;obtain⟨l1,l2,l3⟩:=h.lo;have m:((List.range n).map s.r).length=b.length:=by simp[h.sl]
 have l:∀(j:Nat) (x:List Int×J),(((List.range n).map s.r).zip b)[j]?=K x->s.r j=x.1/\b[j]?=K x.2:= λj x c=>by
  obtain⟨k,d⟩:((List.range n).map s.r)[j]?=K x.1/\b[j]?=K x.2:=List.getElem?_zip_eq_some.1 c
  rw[jY]at k;obtain⟨q,O,P⟩:=lE.1 k;obtain⟨i1,D⟩:=f7.1 O;rw[List.getElem_range]at D;subst D;exact⟨P,d⟩
 have C:(((List.range n).map s.r).zip b).length=n:=by rw[List.length_zip,m];simp[h.sl]
 refine⟨⟨?_, λx p=> ?_,?_⟩,List.map_fst_zip (Nat.le_of_eq m),C, λx p=> ?_⟩
 . have e:Ad Ia (((List.range n).map s.r).zip b)=b:=by
    have:∀(A:List (List Int)) (R:List J),A.length= ↑R->Ad Ia (A.zip R)=R:=by
     intro A;induction A with
     |nil=>intro R h;cases R with|nil=>rfl|cons _ _=>simp at h
     | cons a A S=>intro R h;cases R with
       |nil=>simp at h
       |cons v R=>rw[List.zip_cons_cons,ke,S R (by simpa using h)];rfl
    exact this _ _ m
   rw[e,C];exact Bt (kQ (kQ (kQ (kQ h.sa oS _) oS _) oS _) oS _) H
 . obtain⟨y,Q,rfl⟩:=kI.1 p;obtain⟨j,c⟩:=kq Q;obtain⟨k,d⟩:=l j y c;have z:=h.rs j y.2 d;rw[k]at z;exact Bt ((((z.set (a:=⟨X,0,M⟩) oS _).set (a:=⟨X,1,M⟩) oS _).set (a:=⟨X,2,M⟩) oS _).set (a:=⟨X,3,M⟩) oS _) oM
 . unfold nW;rw[mH,lW];intro i j L c aa g I;obtain⟨_,d⟩:=l i _ (an L);obtain⟨_,G⟩:=l j _ (an c);exact h.ap i j _ _ oM d G g I
 obtain⟨j,c⟩:=kq p;rw[<-(l j x c).1];exact h.rl j
theorem RU(w:Y)(v:VP)(p:MP)(g:VF)(f:MF)(r:Ee)(fc fa:Int)(vb vo vi vl:J)(ai:Qj w v p g f)(aJ:Bl f.aU r)(h0:r.aU=0)(aK:JU w vb vo vi vl r):
 Ai Aq 242 #[An #[v.r,v.k,v.f,v.t,g.p,f.cu,g.l,g.c],An #[fc,fa,vb,vo,vi,vl]] w (TyO w (PL f.aU (Ib p f r.aC (r.dr.map Int.toNat) NM))):=by
 obtain⟨O,P,L,N,Q,T,f1,f3,rfl⟩:=ai.rp.sl;obtain⟨y,A,C,D,F,I,rfl⟩:=I8 ai.rf;obtain⟨W,c1,v2,c2,v3,c3,v4,c4,rfl,rfl,rfl,rfl⟩:=VT aK;rw[pD aJ h0];obtain⟨aQ,aH⟩:∃R,R=Ic p f r.aC (r.dr.map Int.toNat) Wo:=⟨_,rfl⟩;rw[<-aH];have aM:=Aw aH.symm;have HO:=Aw (aJ.jB h0);have H:=Aw (fd ai aK);have bf:f.aU.length<=1024:=ai.cl;have bJ:r.dr.length<=1024:=HO.len;have E0:Ay (Ac (Ac (Ac w (Ak #[Z O p.az P,Z L p.b8 N,Z f1 p.aB f3,Z Q p.bO T,Z y f.aD A,f.cu,Z C f.a7 D,Z F f.aU I] 109)) (Ak #[fc,fa,Z W r.aC c1,Z v2 r.dr c2,Z v3 r.eU c3,Z v4 r.cv c4] 61)) (Ak #[iZ 0,iZ 0,iZ 0,sN] 209)) w #[Z O p.az P,Z L p.b8 N,Z f1 p.aB f3,Z Q p.bO T,Z y f.aD A,f.cu,Z C f.a7 D,Z F f.aU I] 109/\Ay (Ac (Ac (Ac w (Ak #[Z O p.az P,Z L p.b8 N,Z f1 p.aB f3,Z Q p.bO T,Z y f.aD A,f.cu,Z C f.a7 D,Z F f.aU I] 109)) (Ak #[fc,fa,Z W r.aC c1,Z v2 r.dr c2,Z v3 r.eU c3,Z v4 r.cv c4] 61)) (Ak #[iZ 0,iZ 0,iZ 0,sN] 209)) ((w:Nat)+1) #[fc,fa,Z W r.aC c1,Z v2 r.dr c2,Z v3 r.eU c3,Z v4 r.cv c4] 61/\Ay (Ac (Ac (Ac w (Ak #[Z O p.az P,Z L p.b8 N,Z f1 p.aB f3,Z Q p.bO T,Z y f.aD A,f.cu,Z C f.a7 D,Z F f.aU I] 109)) (Ak #[fc,fa,Z W r.aC c1,Z v2 r.dr c2,Z v3 r.eU c3,Z v4 r.cv c4] 61)) (Ak #[iZ 0,iZ 0,iZ 0,sN] 209)) ((w:Nat)+1+1) #[iZ 0,iZ 0,iZ 0,sN] 209/\Ah w w (Ac (Ac (Ac w (Ak #[Z O p.az P,Z L p.b8 N,Z f1 p.aB f3,Z Q p.bO T,Z y f.aD A,f.cu,Z C f.a7 D,Z F f.aU I] 109)) (Ak #[fc,fa,Z W r.aC c1,Z v2 r.dr c2,Z v3 r.eU c3,Z v4 r.cv c4] 61)) (Ak #[iZ 0,iZ 0,iZ 0,sN] 209)):=by
  obtain⟨e1,e2,e3⟩:=BT w #[Z O p.az P,Z L p.b8 N,Z f1 p.aB f3,Z Q p.bO T,Z y f.aD A,f.cu,Z C f.a7 D,Z F f.aU I] #[fc,fa,Z W r.aC c1,Z v2 r.dr c2,Z v3 r.eU c3,Z v4 r.cv c4] 109 61;have hz:(Ac (Ac w (Ak #[Z O p.az P,Z L p.b8 N,Z f1 p.aB f3,Z Q p.bO T,Z y f.aD A,f.cu,Z C f.a7 D,Z F f.aU I] 109)) (Ak #[fc,fa,Z W r.aC c1,Z v2 r.dr c2,Z v3 r.eU c3,Z v4 r.cv c4] 61)).heap.size= ↑w+1+1:=sP
  have e4:=Ay.new (Ac (Ac w (Ak #[Z O p.az P,Z L p.b8 N,Z f1 p.aB f3,Z Q p.bO T,Z y f.aD A,f.cu,Z C f.a7 D,Z F f.aU I] 109)) (Ak #[fc,fa,Z W r.aC c1,Z v2 r.dr c2,Z v3 r.eU c3,Z v4 r.cv c4] 61)) #[iZ 0,iZ 0,iZ 0,sN] 209;rw[hz]at e4;exact⟨e1.av (Al _ _),e2.av (Al _ _),e4,Ar e3 lR (Al _ _)⟩
 clear ai aK aJ aH h0;go_enter func242,ntmps242;go_upto_region 1 with fail
 refine Av (λu=>Ae (Ay u w #[Z O p.az P,Z L p.b8 N,Z f1 p.aB f3,Z Q p.bO T,Z y f.aD A,f.cu,Z C f.a7 D,Z F f.aU I] 109/\Ay u ((w:Nat)+1) #[fc,fa,Z W r.aC c1,Z v2 r.dr c2,Z v3 r.eU c3,Z v4 r.cv c4] 61/\Ay u ((w:Nat)+1+1) #[iZ 0,iZ 0,iZ 0,sN] 209/\Ah w w u)) E0 ?_
 rintro U E1;clear E0;obtain⟨s0,s1,s2,s3,s4,s5,s6,s7⟩:=LK E1.1;obtain⟨y0,y1,y2,y3,y4,y5⟩:=Ut E1.2.1;go_wp2_with fail;refine(NA U ⟨Z O p.az P,Z L p.b8 N,Z f1 p.aB f3,Z Q p.bO T⟩ p ⟨Z y f.aD A,Z C f.a7 D,Z F f.aU I⟩ f (Z W r.aC c1) (H.1.rp.av E1.2.2.2 lR) (H.1.rf.av E1.2.2.2 lR) ⟨_,_,_,rfl⟩ bf).mono ?_;rintro e u1 ⟨TB,QB,GS,B,RS,rfl,aj⟩;have E2:=Aw aj;have n:=Aw (fd E1.1 (fd E1.2.1 (fd E1.2.2.1 (fd E1.2.2.2 (fd (H.1.av E1.2.2.2) (H.2.jq E1.2.2.2))))));have bg:(w:Nat)+1+1<U.heap.size:=E1.2.2.1.lt;clear aj E1 s0 s1 s2 s3 s4 s5 s6 s7 y0 y1 y2 y3 y4 y5;obtain⟨y0,y1,y2,y3,y4,y5⟩:=Ut (n.2.1.av E2.cq);go_wp2_with fail;clear y0 y1 y2 y3 y4 y5;go_loopw [16] (λi wr=>∃(k:Nat) (RS:List J) (s:WI),k<= ↑r.dr/\i=iZ k/\Ae (Ic p f r.aC ((r.dr.map Int.toNat).drop k) s=aQ/\∀j,(s.r j).length<=s.d)/\Ae (Gm U wr ⟨Z O p.az P,Z L p.b8 N,Z f1 p.aB f3,Z Q p.bO T⟩ ⟨Z y f.aD A,Z C f.a7 D,Z F f.aU I⟩ f (Z W r.aC c1) TB QB GS f.aU B (2*k+1) RS s)) (λi _=> ↑r.dr-(intOf i).toNat)
 case atStart=>exact⟨0,RS,Wo,oM,rfl,⟨by rw[List.drop_zero];exact aM, λj=>by simp[Wo]⟩,E2⟩
 case round=>
 clear E2 aM;clear RS;obtain⟨k,RS,s,hk,rfl,HS,E⟩:=hrel;obtain⟨y0,y1,y2,y3,y4,y5⟩:=Ut (n.2.1.av E.cq);by_cases br:k< ↑r.dr
 case pos=>
  obtain⟨z,hz⟩:∃z,r.dr[k]?=K z:=⟨_,an br⟩;obtain⟨b,ez,hb⟩:=HO.ord z (hC hz);subst ez;obtain⟨m,hm⟩:∃m,r.aC[b]?=K m:=⟨_,an hb⟩;obtain⟨ma,me,aE,aF,bH,bI⟩:=HO.eP.part b m hm;obtain⟨gb,ob,xa,xc,ev,x0,x1,x2,aa⟩:=TF n.2.2.2.2.2.aC hm;subst ev;rw[aE,<-E.cq.cell (i7 x0)]at x0;rw[aF,<-E.cq.cell (i7 x1)]at x1;rw[<-E.cq.cell (i7 x2)]at x2;rcases n.2.2.2.2.2.dr.2 with⟨q0,_⟩|⟨gd,od,cd,V,aZ⟩
  . omega
  simp only[i8,kW]at V;obtain⟨bt,bu⟩:=V;subst bt;have z0:=Rd.elem AE aZ k _ hz 0 _ rfl;rw[lJ,jV,<-E.cq.cell (i7 z0)]at z0;have HZ:=Aw (fd hz (fd hm (fd aE (fd aF aa))));have bB:(b:Int)<(r.aC:Int):=oM;have bq:(k:Int)<(r.dr:Int):=oM;clear aZ hz hm aE aF aa bu;go_wp2_with fail;refine(RP U wr ⟨Z O p.az P,Z L p.b8 N,Z f1 p.aB f3,Z Q p.bO T⟩ p ⟨Z y f.aD A,Z C f.a7 D,Z F f.aU I⟩ f (sO gb ob r.aC c1) (Z xa m.next xc) TB QB GS B (2*k+1) RS s r.aC b m ma me E n.2.2.2.2.1 n.2.2.2.2.2.aC HO.eP HZ.2.1 HZ.2.2.1 HZ.2.2.2.1 HZ.2.2.2.2 (HO.two m (hC HZ.2.1)) (HO.j9 b m HZ.2.1) HO.nb oM (HS.2 ma)).mono ?_;intro e u2 aq;have ae:=Ys HS.1 HZ.1 rfl HZ.2.1;clear x0 x1 x2 z0 y0 y1 y2 y3 y4 y5;cases aa:Hd p f r.aC m s with
  | inl q=>
    obtain⟨c,a⟩:=q;rw[aa]at aq ae;obtain⟨rfl,bi,b2⟩:=aq;have au:=Aw ae.symm;(have bC:(c != 0)=true:=by simpa using bi);clear ae aa E;(go_upto_region 6 with fail);refine Av (λu=>Ae (Ay u u2 #[c,a,iZ 0,sN] 209/\Ah U U u)) ⟨Ay.new _ _ _,Ar b2 lR (Al _ _)⟩ ?_
    rintro U3 E3;generalize u2.heap.size=Y3 at E3⊢;clear b2;obtain⟨x0,x1,x2,x3⟩:=CP E3.1;obtain⟨q0,V,q2,q3⟩:=CP (n.2.2.1.av E3.2);obtain⟨aR,aS,aT,aW⟩:=Xu (n.2.2.1.av E3.2);go_wp2_with fail;have G:Ae _:=((((n.2.2.1.av E3.2).set 0 (iZ (c))).set 1 (iZ ((a:Int)))).set 2 (iZ (0))).set 3 sN;simp only[kB,kX,kU]at G;clear q0 V q2 q3;obtain⟨q0,V,q2,q3⟩:=CP G;refine kA (v:=An #[iZ (c),iZ ((a:Int)),iZ (0),sN]) (by simp[results,results242,go_sem,q0,V,q2,q3]) rfl ?_;have aI:=Ar n.2.2.2.1 lR E3.2;rw[au];exact⟨sN,[],rfl,X7 _ _,rfl,sP, λx hx=>(by cases hx),((((aI.setCell oS _).setCell oS _).setCell oS _).setCell oS _)⟩
  | inr s'=>
    rw[aa]at aq ae;obtain⟨rfl,aO,N',bx,aj⟩:=aq;have HN:=Aw (fd ae (VZ HS.2 aa));have E3:=Aw (aj.more oM);clear ae aa aj E;(go_upto_region 6 with fail);refine Av (λu=>Ae (Ay u u2 #[iZ 0,iZ 0,iZ 0,sN] 209/\Gm U u ⟨Z O p.az P,Z L p.b8 N,Z f1 p.aB f3,Z Q p.bO T⟩ ⟨Z y f.aD A,Z C f.a7 D,Z F f.aU I⟩ f (sO gb ob r.aC c1) TB QB GS f.aU B (2*(k+1)+1) aO s')) ⟨Ay.new _ _ _,E3.av (Al _ _)⟩ ?_
    rintro U3 E4;generalize u2.heap.size=Y3 at E4⊢;clear E3;obtain⟨x0,x1,x2,x3⟩:=CP E4.1;go_wp2_with fail;go_roundw;(case rel=>exact⟨k+1,aO,s',oM,by go_num,HN,E4.2⟩);exact oI
 case neg=>
  have bG:k=r.dr.length:=oM;have au:Ae (aQ=.inr s):=by have:=HS.1;have bj:(r.dr.map Int.toNat).drop k=[]:=List.drop_eq_nil_of_le (by rw[kC];omega);rw[bj,Ic]at this;exact this.symm
  have bq:¬(k:Int)<(r.dr:Int):=oM;go_upto_region 9 with fail
  clear y0 y1 y2 y3 y4 y5;have HR:=Aw (E.av (At _));clear E;have ax:wr.drew ⟨TB,10,M⟩=K (sG GS f.aU f.aU):=HR.tb.cell 10;have aA:wr.drew ⟨TB,11,M⟩=K ↑s.d:=HR.tb.cell 11
  have aY:¬TB= ↑w+1+1:=by have:=HR.lo;omega
  have rb:=n.2.2.1.av HR.cq;obtain⟨q0,V,q2,q3⟩:=CP rb;obtain⟨aR,aS,aT,aW⟩:=Xu rb;have G:Ae _:=(((rb.set 0 (iZ 0)).set 1 (iZ 0)).set 2 s.d).set 3 (sG GS f.aU f.aU);simp only[kB,kX,kU]at G;refine wp_region_held_drew (S:= λw'=>w' ⟨TB,10,M⟩=K (sG GS f.aU f.aU)/\w' ⟨TB,11,M⟩=K ↑s.d) kR ⟨ax,aA⟩ (λaG=> ?_)
  generalize wr.drew=WD at HR aG ax aA rb q0 V q2 q3 aR aS aT aW G⊢;refine A5 0 ?_;refine A5 1 ?_;refine A5 2 ?_;refine A5 3 ?_;refine A5 4 ?_;refine A5 5 ?_;refine A5 6 ?_;refine A5 7 ?_;refine A5 8 ?_;refine DU 9 ?_;intro KC aX;go_simp;refine aX.o _ _ ?_ (λaG=> ?_)
  . constructor
    . (repeat rw[World.cell?_setCell_far _ _ _ _ (λe=>aY e.symm)]);exact ax
    (repeat rw[World.cell?_setCell_far _ _ _ _ (λe=>aY e.symm)]);exact aA
  clear aX KC;refine wpAnyH_done kR ?_ _;clear aG;clear q0 V q2 q3;obtain⟨q0,V,q2,q3⟩:=CP G;have HT:=HR.told (X:=(w:Nat)+1+1) (base:=w) n.2.2.2.1.size bg (iZ 0) (iZ 0) s.d (sG GS f.aU f.aU);have aI:=Ar n.2.2.2.1 lR HR.cq;go_wp2_with fail;refine kA (v:=An #[iZ 0,iZ 0,s.d,sG GS f.aU f.aU]) (by simp[results,results242,go_sem,q0,V,q2,q3]) rfl ?_;rw[au];exact⟨_,_,rfl,HT.1,HT.2.1,by rw[HT.2.2.1];exact bf,HT.2.2.2,((((aI.setCell oS _).setCell oS _).setCell oS _).setCell oS _)⟩
theorem ni(B p top:Nat)(t:Int)(d:Bool)(c n:Int)(X:VS)(C:List (J×List MC))(K:List MC)(F:List (MG×J))(O:J)(gf c3 a j r b:Nat)(y:MG×J)(w:Y)(h:AB w B X C K F)(N:BF w p t d c n X O)(hF: ↑F=top+1)(au:top<=1048576)(P:F[top]?=some y)(I:X.f=Z gf (top+1) c3)(aa:O=(Z a j r))(L:y.1.func=b)(hk:b<j)(aA:j<=1048576):
 Ai Aq 47 #[.pointer p] w λe w'=>e=Am (An #[.pointer (some ⟨a,b*9,M⟩),.pointer (some ⟨gf,top*4,M⟩)])/\Ah w w w':=by
 subst aa;obtain⟨l,m,x3⟩:=X;simp only[]at I;subst I;have G:Ae (BF (Ac w (Ak #[.pointer M,.pointer M] 143)) p t d c n ⟨l,m,Z gf (top+1) c3⟩ (Z a j r)/\AB (Ac w (Ak #[.pointer M,.pointer M] 143)) B ⟨l,m,Z gf (top+1) c3⟩ C K F/\Ay (Ac w (Ak #[.pointer M,.pointer M] 143)) w #[.pointer M,.pointer M] 143/\Ah w w (Ac w (Ak #[.pointer M,.pointer M] 143))):=⟨N.av (Al _ _),h.grow (Al _ _),Ay.new _ _ _,Al _ _⟩
 have H:Ae (↑F=top+1/\F[top]?=some y/\y.1.func=b):=⟨hF,P,L⟩
 have ax:(b:Int)<(j:Int):=oM;have aE:IntKind.i64.wrap (top:Int)=(top:Int):=lr _ oM;clear h N P L;go_enter func47,ntmps47;go_upto_region 1 with fail
 refine Av (λu=>Ae (BF u p t d c n ⟨l,m,Z gf (top+1) c3⟩ (Z a j r)/\AB u B ⟨l,m,Z gf (top+1) c3⟩ C K F/\Ay u w #[.pointer M,.pointer M] 143/\Ah w w u)) G ?_
 rintro U E1;clear G;have A:=E1.1.at.2.2.2.2.2.2.1;simp only[]at A;have inst:=Ax.some U;have J0:= λn:Ax U=>Ax.cell A n
 go_wp2_with fail;refine AD kR kR ?_;repeat(go_big_quiet_step (fail))
 refine wpQuiet_nil ?_;rintro aM ⟨g,rfl⟩;have i:Ae (BF g.u p t d c n ⟨l,m,Z gf (top+1) c3⟩ (Z a j r)/\AB g.u B ⟨l,m,Z gf (top+1) c3⟩ C K F/\Ay g.u w #[.pointer M,.pointer M] 143/\Ah w w g.u):=⟨E1.1.av g.h,E1.2.1.grow g.h,E1.2.2.1.av g.h,Ar E1.2.2.2 lR g.h⟩
 clear J0 inst A E1;go_upto_region 2 with fail
 generalize g.u=V at i⊢;clear g;have Q:=i.1.at.2.2.2.2.2.2.2;have x:=i.2.1.dk;simp only[]at x;rw[H.1]at x;have s:=x.cellAt (top*4+0) oM;rw[BM BG 4 Ch F top 0 _ H.2.1 oM]at s;simp only[BG,f8,H.2.2,jV]at s;clear x;have D:=i.2.2.1.cell 0;have E:=i.2.2.1.cell 1;have W:=i.2.2.1.frozen 0;have aj:=i.2.2.1.frozen 1;simp only[i5,f8,i6]at D E;have k:=At V;have aF:=Au k Q;have aq:=Au k s;have aJ:=Au k D;have aK:=Au k E;have q:=i.2.2.1.set 0 (.pointer (some ⟨a,b*9,M⟩));have R:=q.cell 1;have z:=q.set 1 (.pointer (some ⟨gf,top*4,M⟩));have S:=z.cell 0;have T:=z.cell 1;simp only[kB,kX,kU,i5,f8,i6]at R S T;have aH:(V.setCell w (.pointer (some ⟨a,b*9,M⟩))).drew.cell? ⟨w,1,M⟩=some (.pointer M):=R;have aI:(V.setCell w (.pointer (some ⟨a,b*9,M⟩))).drew.frozen? ⟨w,1,M⟩=false:=q.frozen 1;have aG:V.drew.frozen? w=false:=W;have ae:((V.setCell w (.pointer (some ⟨a,b*9,M⟩))).setCell ⟨w,1,M⟩ (.pointer (some ⟨gf,top*4,M⟩))).drew.cell? w=some (.pointer (some ⟨a,b*9,M⟩)):=S;have ai:((V.setCell w (.pointer (some ⟨a,b*9,M⟩))).setCell ⟨w,1,M⟩ (.pointer (some ⟨gf,top*4,M⟩))).drew.cell? ⟨w,1,M⟩=some (.pointer (some ⟨gf,top*4,M⟩)):=T;have HB:Ae (Ah w w ((V.drew.setCell w (.pointer (some ⟨a,b*9,M⟩))).setCell ⟨w,1,M⟩ (.pointer (some ⟨gf,top*4,M⟩)))):=((Ar i.2.2.2 lR k).setCell sP _).setCell sP _;clear Q s D E W aj k q z;go_upto_region 2 with fail
 go_region_law (fail);all_goals
  go_wp2_with fail;exact kA (v:=An #[.pointer (some ⟨a,b*9,M⟩),.pointer (some ⟨gf,top*4,M⟩)]) (by simp[results,results47,go_sem,ae,ai]) rfl ⟨rfl,HB⟩
end Go.Proofs.YtkgohaigebcgoaaGreatDoor
