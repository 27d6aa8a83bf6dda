import Derived.Test.YtkgohaigebcgoaaGreatDoorCh32
import Derived.Lib.SlBuf
import Derived.Test.YtkgohaigebcgoaaGreatDoorCh27
namespace Go.Proofs.YtkgohaigebcgoaaGreatDoor
open Go.ChangeShapes Go.WideShapes Go.ChangeAt Go.RowKit Go.Proofs.Tryz
set_option linter.unusedVariables false
open Go.Value renaming slice → Z,int → Ag,agg → An,tuple → Ap
open Option renaming some → K,none → M
open Go renaming Value → J,World → Y,Calls → Ai,TypeId → Aj
open Go.RowKit renaming Below → Ah,Hid → Ae
open Go.Obj renaming cells → Ak
open Go.Ending renaming returned → Am
open Go.Proofs.Tryz renaming prog → Aq
open Go.World renaming setCell → Aa,ownsRow → Ab,alloc → Ac
open List renaming flatMap → Ad
open Go.IntKind renaming i64 → Af
set_option maxHeartbeats 8000000
set_option maxRecDepth 100000
variable {w u:Y}{base k n m B top gf A:Nat}{g:VF}{c a t b op c':Int}{p:MP}{v:VP}{C:List (J×List MC)}{F:List (MG×J)}{x:MG×J}{d:Bool}{X:VS}{s:WI}{r:DQ}{f:MF}{vl:J}
theorem S4{e:Aj}{g c:Nat}{xs cs:List J}{a:Array J}(h:Ab w base e k (Z g n c) n xs)(f:w.heap[g]?=K (Ak a e (0,0)))(q: ↑cs<=n*k):Ab (w.setRow g (a.toList.take 0++cs++a.toList.drop (0+cs.length)).toArray) base e k (Z g n c) n (cs++xs.drop cs):=by
 rcases h.2 with⟨b,_⟩|⟨u,cap,t,b,l,d,j,m,p,r⟩
 . cases b
 simp only[lU,lX,ny,mj,oZ]at b;obtain⟨rfl,rfl⟩:=b;rw[f]at d;simp only[lX,nz,oZ]at d;obtain rfl:=d;have s:=h.1;have v:n*k<=a.toList.length:=by rw[Array.length_toList,p];exact Nat.mul_le_mul_right k j
 refine⟨by rw[mB,m8,s];omega,.inr ⟨g,c,_,rfl,l,setRow_heap w g a _ e _ f,j,m,?_,?_⟩⟩
 . simp only[List.size_toArray,List.take_zero,nO,mB,m8,m9,Array.length_toList]at*;omega
 simp only[List.take_zero,nO,m9];rw[List.take_append,mm q,<-r,List.drop_take]
theorem Sn{R:Nat->Prop}(g:Nat)(cs:Array J)(h:R g):Bp R u (u.setRow g cs):=⟨rfl,rfl,rfl,sP, λk b a=>setRow_other u g k cs (λe=>a (e▸h))⟩
theorem RO(a b:List Int)(ar:List MC)(h:ar.length= ↑a):Ad MC.cells ar++(Ad MC.cells (A8 (a++b))).drop (Ad MC.cells ar).length=Ad MC.cells (ar++A8 b):=by
 have c:(Ad MC.cells ar).length=(Ad MC.cells (A8 a)).length:=by rw[AX MC.cells 2 MC.bW,AX MC.cells 2 MC.bW,h];simp[A8]
 have d:A8 (a++b)=A8 a++A8 b:=by simp[A8]
 rw[c,d,mW,List.drop_left,<-mW]
theorem AB.kJ{m p:Y}{t:Nat}{v:VS}{K:List MC}(d:AB m B v C K F)(D:B<=t)(E:∀j,Dm v C F j->j<t)(y:Ab m t 193 2 x.2 x.1.aB (Ad MC.cells x.1.aB)){b:J}(G:m.grownBy p v.f.ownBlock)(N:Ab p B 132 4 b (F.length+1) (Ad BE F++BE x)):AB p B {v with f:=b} C K (F++[x]):=by
 have apart:∀{e:Aj} {s:J} {k n:Nat} {xs:List J} {q:Nat},Ab m q e k s n xs->e≠132->Ab p q e k s n xs:=by
  intro e s k n xs q z L;refine C6 z G (λg I l=> ?_);rcases d.dk.2 with⟨u,_⟩|⟨P,cap,O,u,_,H,_⟩
  . rw[u]at l;cases l
  rw[u]at l;simp only[Value.ownBlock,lX]at l;subst l;exact Bi z H L g I rfl
 refine⟨apart d.cells dC,?_,?_,?_⟩
 . rw[mB,mW];simpa using N
 . intro r c;simp only[Bh,nS,nh,List.map_nil,mA,lW,lZ,mS]at c;rcases c with(c|rfl)|c|rfl
   . exact apart (d.fg.own r (by simp[c])) dC
   . exact apart (d.fg.own (v.k,K) sP) dC
   . exact apart (d.fg.own r (by simp only[Bh,mA];exact .inr c)) dC
   exact apart (Bm y D) dC
 rw[show C++[(v.k,K)]++Bh (F++[x])=(C++[(v.k,K)]++Bh F)++[(x.2,x.1.aB)]by simp[Bh]];refine nI.2 ⟨d.fg.sep,sP, λa h r c=> ?_⟩;simp only[lW,lZ,mS]at c;subst c;intro g w e;have Q:=y.lt g e;have A:Dm v C F g:=by
  simp only[mA,mK]at h;rcases h with(h|rfl)|h
  . exact .inr (.inr (.inr (.inl ⟨a,h,w⟩)))
  . exact .inr (.inl w)
  exact .inr (.inr (.inr (.inr ⟨a,h,w⟩)))
 have:=E g A;omega
theorem AG.kN{n:Int}{K:List MC}{s:J}{q v:Nat}{p:VS}{k:List (J×List MC)}{l:List (MG×J)}(h:AG w u B m top t d c n X C K F s q v gf op a b c' p k l){y:Y}{g:Nat}(f:Bp (λj=>j=g) u y)(D: ↑w+1<g)(z:∀j,Dm X C F j->j<g):AG w y B m top t d c n X C K F s q v gf op a b c' p k l:=by have A:=h.hM;exact⟨h.mb.gv f oM,h.own.gv f (λj r e=>by have:=z j r;omega),f.eI h.fb oM,f.eI h.ib oM,h.gv.trans f (λj r e=>oM),h.iy,h.ji,h.hB,h.hM⟩
theorem AG.jT{e:Nat}{n:Int}{K:List MC}{v:J}{r y:Nat}{q:VS}{l:List (J×List MC)}{p:List (MG×J)}(h:AG w u B e top t d c n X C K F v r y gf op a b c' q l p){g:Option Addr}{kl c2:Nat}(s:X.k=Z g m c2)(z:kl<= ↑K):AG w (Aa u ⟨e,5,M⟩ (Z g kl c2)) B e top t d c n ⟨X.c,Z g kl c2,X.f⟩ C (K.take kl) F v r y gf op a b c' q l p:=h.pop (h.mb.ku _) (GP (h.own.jT (mC h.hB h.gv.size) s z) h.mb) (Bp.setCell (R:= λj=>j=e) (Bp.refl _ u) (.inl rfl) _) (by rw[s];cases g<;>rfl)
theorem AG.lj{n:Int}{K:List MC}{N:J}{H Q:Nat}{G:VS}{D:List (J×List MC)}{E:List (MG×J)}(h:AG w u B A top t d c n X C K F N H Q gf op a b c' G D E){z:Y}{p:Nat}(aa: ↑w+1<p)(R:∀j,Dm X C F j->j<p)(L:Ab u p 193 2 x.2 x.1.aB (Ad MC.cells x.1.aB)){v:J}(m:u.grownBy z X.f.ownBlock)(V:Ab z B 132 4 v (F.length+1) (Ad BE F++BE x))(q:v.ownBlock=X.f.ownBlock\/∀g,v.ownBlock=some g->p<=g):AG w (Aa z ⟨A,6,M⟩ v) B A top t d c n ⟨X.c,X.k,v⟩ C K (F++[x]) N H Q gf op a b c' G D E:=by
 have hM:=h.hM;have hB:=h.hB;have o1:=h.own.kJ oM R L m V;have s:Bp (λj=>X.f.ownBlock=some j) u z:=⟨m.os,m.tape,m.output,m.size, λk S U=>m.block k S (λe=>U e.symm)⟩;have W:=h.own.kI h.mb;have O:=h.mb.gv s (λe=>W (.inr (.inr (.inl e))));have P:∀j,j=w.heap.size\/j=w.heap.size+1->¬X.f.ownBlock=some j:= λj l e=>by have:=h.ji j (.inr (.inr (.inl e)));omega
 have I:∀j,Dm ⟨X.c,X.k,v⟩ C (F++[x]) j->Dm X C F j\/p<=j:= λj l=>by
  rcases l with e|e|e|e|⟨r,y,e⟩
  . exact .inl (.inl e)
  . exact .inl (.inr (.inl e))
  . rcases q with q|q
    . exact .inl (.inr (.inr (.inl (by rw[<-q];exact e))))
    exact .inr (q j e)
  . exact .inl (.inr (.inr (.inr (.inl e))))
  simp only[Bh,nS,nh,List.map_nil,mA,lW,lZ,mS]at y;rcases y with y|rfl
  . exact .inl (.inr (.inr (.inr (.inr ⟨r,y,e⟩))))
  exact .inr (L.lt j e).1
 refine⟨O.kP v,GP o1 O,(s.eI h.fb (P _ (.inl rfl))).other oS _,(s.eI h.ib (P _ (.inr rfl))).other oS _,(h.gv.trans s (λj l e=>.inr (h.iy j (.inr (.inr (.inl e))) l))).setCell (.inl (.inl rfl)) _, λj l T=> ?_, λj l=> ?_,h.hB,h.hM⟩
 . rcases I j l with e|e
   . exact h.iy j e T
   omega
 rcases I j l with e|e
 . exact h.ji j e
 omega
theorem AG.lC{l:Nat}{n:Int}{K:List MC}{m:J}{v:Nat}{s:VS}{q:List (J×List MC)}{r:List (MG×J)}(h:AG w u B l top t d c n X C K F m v A gf op a b c' s q r){p:Y}(g:u.grownBy p X.f.ownBlock):BC p l t d c n X m:=h.mb.gv (R:= λj=>X.f.ownBlock=some j) ⟨g.os,g.tape,g.output,g.size, λk y z=>g.block k y (λe=>z e.symm)⟩ (λe=>h.own.kI h.mb (.inr (.inr (.inl e))))
theorem V5(t:J)(ts:List Int)(m:Nat)(f: ↑ts=m)(w:Y)(g:m<=4194304)(d:Rd w 1 t m (Ad At ts)):
 Ai Aq 41 #[t] w λe b=>∃a c,e=Am (Z a m c)/\Ab b w 193 2 (Z a m c) m (Ad MC.cells (A8 ts))/\Ah w w b:=by
 subst f;exact KN t ts w g d
theorem Wr(ar:List MC)(B D top:Nat)(t:Int)(d:Bool)(c n:Int)(X:VS)(C:List (J×List MC))(K:List MC)(F:List (MG×J))(hv:J)(L N gf c3:Nat)(y:MG×J)(op a b c':Int)(w:Y)(hB:B<=w.heap.size)(h:AB w B X C (K++ar) F)(hm:BC w D t d c n X hv)(hF:F.length=top+1)(bV:top<=1048576)(hy:F[top]?=some y)(aS:X.f=Z (some ⟨gf,0,M⟩) (top+1) c3)(aR:K.length+ar.length<=1048576)(q:Nat)(ha:a=q)(k z:List Int)(aG:ar.length=k.length)(G I O:Nat)(bu:hv=Z (some ⟨G,0,M⟩) I O)(hq:q<I)(cU:I<=1048576)(l:Nat)(aK:(k++z).length=l)(pp tp:Option Addr)(pc tc:Nat)(hp:w.cell? ⟨G,q*9+4,M⟩=some (Z pp k.length pc))(ht:w.cell? ⟨G,q*9+8,M⟩=some (Z tp l tc))(aZ:Rd w 1 (Z tp l tc) l (Ad At (k++z)))(cW:l<=1048576):
 Ai Aq 112 #[.pointer (some ⟨D,0,M⟩),An #[.pointer (some ⟨L,N,M⟩),.pointer (some ⟨gf,top*4,M⟩)],An #[Ag Af op,Ag Af a,Ag Af b,Ag Af c']] w (λe w'=>∃vl,B4 w B D t d c n C K (F++[(⟨(q:Int),0,((K.length:Nat):Int),ar++A8 z⟩,vl)]) hv X C F e w'):=by
 subst ha bu;obtain⟨r,x2,x3⟩:=X;simp only[]at aS;subst aS;obtain⟨p,c2,e2⟩:=AF (h.fg.own (x2,K++ar) sP);simp only[]at e2;have br:(K++ar).length<=c2:=by have h2:=h.fg.own (x2,K++ar) sP;simp only[]at h2;rw[e2]at h2;exact Gq h2
 subst e2;obtain⟨kl,aq⟩:∃kl,K.length=kl:=⟨_,rfl⟩;have aE:(K++ar).length=kl+k.length:=by rw[mB,aq,aG]
 rw[aE]at h hm br⊢;rw[aq]at aR⊢;have T:Ae (K.length=kl/\ar.length=k.length/\(K++ar).length=kl+k.length):=⟨aq,aG,aE⟩
 have bY:kl+k.length<=1048576:=oM;have aQ:Ae ((k++z).length=l):=aK;have aX:k.length<=l:=by rw[<-aK,mB];omega
 clear aq aG aE aR aK;have E0:Ae (AG w (Ac (Ac w (Ak #[.pointer (some ⟨L,N,M⟩),.pointer (some ⟨gf,top*4,M⟩)] 143)) (Ak #[Ag Af op,Ag Af (q:Int),Ag Af b,Ag Af c'] 25)) B D top t d c n ⟨r,Z p (kl+k.length) c2,Z (some ⟨gf,0,M⟩) (top+1) c3⟩ C (K++ar) F (Z (some ⟨G,0,M⟩) I O) L N gf op q b c' ⟨r,Z p (kl+k.length) c2,Z (some ⟨gf,0,M⟩) (top+1) c3⟩ C F):=AG.of L N gf op q b c' hB h hm;have H:Ae (AB w B ⟨r,Z p (kl+k.length) c2,Z (some ⟨gf,0,M⟩) (top+1) c3⟩ C (K++ar) F/\F.length=top+1/\F[top]?=some y):=⟨h,hF,hy⟩
 clear h hm hy;go_enter func112,ntmps112;go_upto_region 1 with fail
 refine Av (λu=>Ae (AG w u B D top t d c n ⟨r,Z p (kl+k.length) c2,Z (some ⟨gf,0,M⟩) (top+1) c3⟩ C (K++ar) F (Z (some ⟨G,0,M⟩) I O) L N gf op q b c' ⟨r,Z p (kl+k.length) c2,Z (some ⟨gf,0,M⟩) (top+1) c3⟩ C F)/\Ah w.heap.size w u) ⟨E0,Ar (Al _ _) lR (Al _ _)⟩ ?_
 rintro U ⟨E1,bU⟩;clear E0;have bZ:=E1.o.hM;have aA:Ae (w.cell? ⟨G,q*9+4,M⟩=some (Z pp k.length pc)/\w.cell? ⟨G,q*9+8,M⟩=some (Z tp l tc)/\Rd w 1 (Z tp l tc) l (Ad At (k++z))):=⟨hp,ht,aZ⟩
 clear hp ht aZ;have cX:(q:Int)<(I:Int):=oM;have cZ:IntKind.i64.wrap ((kl:Int)+(k.length:Int)-(k.length:Int))=(kl:Int):=by rw[oY _ oM];omega
 have cY:(kl:Int)+(k.length:Int)-(k.length:Int)=(kl:Int):=oM;have m7:=E1.o.mb.at.2.2.2.2.2.2.2;have i1:=E1.o.ib.cell 1;simp only[lQ,lO,lS]at i1;have inst:=Ax.some U;have J0:= λn:Ax U=>Ax.cell m7 n
 have J1:= λn:Ax U=>Ax.cell i1 n
 go_wp2_with fail;refine AC kR kR ?_;repeat(go_big_quiet_step (fail))
 refine wpQuiet_nil ?_;rintro bP ⟨R,rfl⟩;have E2:Ae (AG w R.u B D top t d c n ⟨r,Z p (kl+k.length) c2,Z (some ⟨gf,0,M⟩) (top+1) c3⟩ C (K++ar) F (Z (some ⟨G,0,M⟩) I O) L N gf op q b c' ⟨r,Z p (kl+k.length) c2,Z (some ⟨gf,0,M⟩) (top+1) c3⟩ C F/\Ah w.heap.size w R.u):=⟨E1.o.av R.h,Ar bU lR R.h⟩
 clear J0 J1 inst m7 i1 E1 bU;go_upto_region 2 with fail
 generalize R.u=U2 at E2⊢;clear R;clear U;have m5:=E2.o.1.mb.at.2.2.2.2.2.1;have hp:=Au E2.o.2 aA.o.1;simp only[]at m5;have inst:=Ax.some U2;have J0:= λn:Ax U2=>Ax.cell m5 n
 have J1:= λn:Ax U2=>Ax.cell hp n
 go_wp2_with fail;refine AC kR kR ?_;repeat(go_big_quiet_step (fail))
 refine wpQuiet_nil ?_;rintro bP ⟨R,rfl⟩;have E3:Ae (AG w R.u B D top t d c n ⟨r,Z p (kl+k.length) c2,Z (some ⟨gf,0,M⟩) (top+1) c3⟩ C (K++ar) F (Z (some ⟨G,0,M⟩) I O) L N gf op q b c' ⟨r,Z p (kl+k.length) c2,Z (some ⟨gf,0,M⟩) (top+1) c3⟩ C F/\Ah w.heap.size w R.u):=⟨E2.o.1.av R.h,Ar E2.o.2 lR R.h⟩
 clear J0 J1 inst m5 hp E2;go_upto_region 3 with fail
 generalize R.u=U3 at E3⊢;clear R;clear U2;have ht:=Au E3.o.2 aA.o.2.1;go_wp2_with fail;refine(V5 (Z tp l tc) (k++z) l aQ.o U3 oM (aA.o.2.2.av E3.o.2 lR)).mono ?_;rintro e Q ⟨A,s,rfl,bg,b4⟩;have E4:Ae (AG w Q B D top t d c n ⟨r,Z p (kl+k.length) c2,Z (some ⟨gf,0,M⟩) (top+1) c3⟩ C (K++ar) F (Z (some ⟨G,0,M⟩) I O) L N gf op q b c' ⟨r,Z p (kl+k.length) c2,Z (some ⟨gf,0,M⟩) (top+1) c3⟩ C F/\Ab Q U3.heap.size 193 2 (Z A l s) l (Ad MC.cells (A8 (k++z)))/\∀j,Dm ⟨r,Z p (kl+k.length) c2,Z (some ⟨gf,0,M⟩) (top+1) c3⟩ C F j->j<U3.heap.size):=⟨E3.o.1.av b4,bg, λj S=>(E3.o.1.own.ltOf S).2⟩
 have hY:w.heap.size+1<U3.heap.size:=E3.o.1.ib.lt;have aF:U3.heap.size<=Q.heap.size:=b4.size;clear bg b4 ht E3;go_upto_region 4 with fail
 generalize U3.heap.size=E at E4 hY aF;have m5:=E4.o.1.mb.at.2.2.2.2.2.1;simp only[]at m5;have cK:kl+k.length-kl=k.length:=oM;have cH:(kl:Int)<=(kl:Int)+(k.length:Int):=oM;have cI:(kl:Int)+(k.length:Int)<=(c2:Int):=oM;have cJ:(kl:Int)<=(c2:Int):=oM;go_cut [] (λwx=>Ae (AG w wx B D top t d c n ⟨r,Z p (kl+k.length) c2,Z (some ⟨gf,0,M⟩) (top+1) c3⟩ C (K++ar) F (Z (some ⟨G,0,M⟩) I O) L N gf op q b c' ⟨r,Z p (kl+k.length) c2,Z (some ⟨gf,0,M⟩) (top+1) c3⟩ C F/\Ab wx E 193 2 (Z A l s) l (Ad MC.cells (ar++A8 z))/\(∀j,Dm ⟨r,Z p (kl+k.length) c2,Z (some ⟨gf,0,M⟩) (top+1) c3⟩ C F j->j<E)/\E<=wx.heap.size))
 case first=>
  by_cases aa:k.length=0
  . have ax:Ae (k.length=0):=aa;(have HE:Ae (A8 (k++z)=ar++A8 z):=by have e1:=mG aa;have e2:=mG (T.o.2.1.trans aa);show A8 (k++z)=ar++A8 z;rw[e1,e2];rfl);clear aa;have E5:Ae (AG w Q B D top t d c n ⟨r,Z p (kl+k.length) c2,Z (some ⟨gf,0,M⟩) (top+1) c3⟩ C (K++ar) F (Z (some ⟨G,0,M⟩) I O) L N gf op q b c' ⟨r,Z p (kl+k.length) c2,Z (some ⟨gf,0,M⟩) (top+1) c3⟩ C F/\Ab Q E 193 2 (Z A l s) l (Ad MC.cells (ar++A8 z))/\(∀j,Dm ⟨r,Z p (kl+k.length) c2,Z (some ⟨gf,0,M⟩) (top+1) c3⟩ C F j->j<E)/\E<=Q.heap.size):=⟨E4.o.1,by have:=E4.o.2.1;rw[HE.o]at this;exact this,E4.o.2.2,aF⟩
    rcases Bf (E4.o.1.own.fg.own (Z p (kl+k.length) c2,K++ar) sP)with⟨e,e0⟩|⟨g2,bi,e⟩
    . simp only[lU]at e;obtain⟨rfl,bj,rfl⟩:=e;clear e0 bj;(have ae:= λty=>Fy (P:=Aq) Q 45 45 ty 193 A M l s k.length 0 underlying45 kR (by have:=ax.o;simp[this]));go_wp2_with fail;go_meet;exact E5
    simp only[lU]at e;obtain⟨rfl,hx,rfl⟩:=e;clear hx;by_cases aW:c2=kl
    . have cQ:((c2:Int)==(kl:Int))=true:=oT;have cR:(c2==kl)=true:=oT;have cT:c2-kl=0:=oM;clear aW;(have ae:= λty=>Fy (P:=Aq) Q 45 45 ty 193 A (some ⟨g2,0,M⟩) l s k.length 0 underlying45 kR (by have:=ax.o;simp[this]));go_wp2_with fail;go_meet;exact E5
    (have ae:= λty=>Fy (P:=Aq) Q 45 45 ty 193 A (some ⟨g2,kl*2,M⟩) l s k.length (c2-kl) underlying45 kR (by have:=ax.o;simp[this]));go_wp2_with fail;go_meet;exact E5
  have au:=E4.o.1.own.fg.own (Z p (kl+k.length) c2,K++ar) sP;rcases Bf au with⟨e,e0⟩|⟨g2,bi,e⟩
  . have:=T.o.2.2;simp only[]at e0;omega
  simp only[lU]at e;obtain⟨rfl,hx,rfl⟩:=e;clear hx;simp only[T.o.2.2]at au;rcases Bf E4.o.2.1 with⟨e,e0⟩|⟨gz,bT,e⟩
  . omega
  simp only[lU,mj]at e;obtain⟨rfl,rfl⟩:=e;obtain⟨bq,W,aj⟩:=Dv E4.o.2.1;have cj:=Gq E4.o.2.1;have aW:¬c2=kl:=oM;have ai:(Ad MC.cells ar).length=k.length*2:=by rw[AX MC.cells 2 MC.bW,T.o.2.1]
  have aM:=TR (kl:=kl) (m:=k.length) (c':=c2-kl) (Rd.eP au) T.o.2.2 rfl;rw[show(K++ar).drop kl=ar by rw[<-T.o.1];exact List.drop_left]at aM;have bf:∀j v,(Ad MC.cells ar)[j]?=some v->Q.cell? ((⟨g2,kl*2,M⟩:Addr).add j)=some v:= λj v S=>by
   rcases aM.2 with⟨e,_⟩|⟨g',o',bQ,e,hc⟩
   . exact absurd e aa
   simp only[lU,lX,ny,mj,oZ]at e;obtain⟨⟨rfl,rfl⟩,_⟩:=e;rw[Cq];exact hc j v S
  have bC:k.length*2<=W.size:=by
   rcases E4.o.2.1.2 with⟨e,_⟩|⟨g',cap,bS,e,_,aH,cM,ce,bt,_⟩
   . cases e
   simp only[lU,lX,ny,mj,oZ]at e;obtain⟨rfl,rfl⟩:=e;rw[aj]at aH;simp only[lX,nz,oZ]at aH;obtain rfl:=aH;rw[bt];exact Nat.mul_le_mul_right 2 oM
  have aJ:Nat.min k.length l=k.length:=Nat.min_eq_left aX;have ae:= λty=>NF (P:=Aq) Q 45 45 ty 193 gz 0 l s ⟨g2,kl*2,M⟩ k.length (c2-kl) W 193 (Ad MC.cells ar) underlying45 kR aj (by rw[aJ];exact ai) bf (by rw[ai];omega) (JB ar)
  have E5:Ae (AG w (Q.setRow gz (W.toList.take 0++Ad MC.cells ar++W.toList.drop (0+(Ad MC.cells ar).length)).toArray) B D top t d c n ⟨r,Z (some ⟨g2,0,M⟩) (kl+k.length) c2,Z (some ⟨gf,0,M⟩) (top+1) c3⟩ C (K++ar) F (Z (some ⟨G,0,M⟩) I O) L N gf op q b c' ⟨r,Z (some ⟨g2,0,M⟩) (kl+k.length) c2,Z (some ⟨gf,0,M⟩) (top+1) c3⟩ C F/\Ab (Q.setRow gz (W.toList.take 0++Ad MC.cells ar++W.toList.drop (0+(Ad MC.cells ar).length)).toArray) E 193 2 (Z (some ⟨gz,0,M⟩) l s) l (Ad MC.cells (ar++A8 z))/\(∀j,Dm ⟨r,Z (some ⟨g2,0,M⟩) (kl+k.length) c2,Z (some ⟨gf,0,M⟩) (top+1) c3⟩ C F j->j<E)/\E<=(Q.setRow gz (W.toList.take 0++Ad MC.cells ar++W.toList.drop (0+(Ad MC.cells ar).length)).toArray).heap.size):=⟨E4.o.1.kN (Sn gz _ rfl) oM (λj S=>by have:=E4.o.2.2 j S;omega),by have h1:=S4 (cs:=Ad MC.cells ar) E4.o.2.1 aj (by rw[ai];exact Nat.mul_le_mul_right 2 aX);rw[RO k z ar T.o.2.1]at h1;exact h1,E4.o.2.2,by rw[setRow_size];exact aF⟩
  generalize Q.setRow gz (W.toList.take 0++Ad MC.cells ar++W.toList.drop (0+(Ad MC.cells ar).length)).toArray=u5 at ae E5;clear bf bC aM ai aj bq au;rw[aJ]at ae;clear aJ;go_wp2_with fail;go_meet;exact E5
 case rest=>
  have E5:Ae (AG w wc B D top t d c n ⟨r,Z p (kl+k.length) c2,Z (some ⟨gf,0,M⟩) (top+1) c3⟩ C (K++ar) F (Z (some ⟨G,0,M⟩) I O) L N gf op q b c' ⟨r,Z p (kl+k.length) c2,Z (some ⟨gf,0,M⟩) (top+1) c3⟩ C F/\Ab wc E 193 2 (Z A l s) l (Ad MC.cells (ar++A8 z))/\(∀j,Dm ⟨r,Z p (kl+k.length) c2,Z (some ⟨gf,0,M⟩) (top+1) c3⟩ C F j->j<E)/\E<=wc.heap.size):=hcut
  clear hcut E4 m5;have bx:kl<=(K++ar).length:=by rw[T.o.2.2];omega
  have m5:=E5.o.1.mb.at.2.2.2.2.2.1;have bJ:=E5.o.1.mb.frozen 5;simp only[]at m5;have E6:Ae (AG w (Aa wc ⟨D,5,M⟩ (Z p kl c2)) B D top t d c n ⟨r,Z p kl c2,Z (some ⟨gf,0,M⟩) (top+1) c3⟩ C K F (Z (some ⟨G,0,M⟩) I O) L N gf op q b c' ⟨r,Z p (kl+k.length) c2,Z (some ⟨gf,0,M⟩) (top+1) c3⟩ C F/\Ab (Aa wc ⟨D,5,M⟩ (Z p kl c2)) E 193 2 (Z A l s) l (Ad MC.cells (ar++A8 z))/\(∀j,Dm ⟨r,Z p kl c2,Z (some ⟨gf,0,M⟩) (top+1) c3⟩ C F j->j<E)/\E<=(Aa wc ⟨D,5,M⟩ (Z p kl c2)).heap.size):=by have h1:=E5.o.1.jT (kl:=kl) rfl bx;(have h2:(K++ar).take kl=K:=by rw[<-T.o.1];exact List.take_left);rw[h2]at h1;refine⟨h1,mR E5.o.2.1 (λe=>by have:=(E5.o.2.1.lt _ e).1;simp only[]at this;omega) _, λj S=>E5.o.2.2.1 j (S.stack (by cases p<;>rfl)),by rw[oN];exact E5.o.2.2.2⟩
  go_upto_region 6 with fail
  refine Av (λu=>Ae (AG w u B D top t d c n ⟨r,Z p kl c2,Z (some ⟨gf,0,M⟩) (top+1) c3⟩ C K F (Z (some ⟨G,0,M⟩) I O) L N gf op q b c' ⟨r,Z p (kl+k.length) c2,Z (some ⟨gf,0,M⟩) (top+1) c3⟩ C F/\u.ownsRow E 193 2 (Z A l s) l (Ad MC.cells (ar++A8 z))/\(∀j,Dm ⟨r,Z p kl c2,Z (some ⟨gf,0,M⟩) (top+1) c3⟩ C F j->j<E)/\E<=u.heap.size)) E6 ?_
  rintro V E7;clear E6 E5 m5 bJ;obtain⟨j0,S,bG,bH,bI⟩:=nE tm;have m6:=E7.o.1.mb.at.2.2.2.2.2.2.1;have i1:=E7.o.1.ib.cell 1;simp only[]at m6;simp only[lQ,lO,lS]at i1;have bD:=As V;have bE:Ah V.heap.size V (V.alloc (Ak #[Ag Af (q:Int),Ag Af 0,Ag Af (kl:Int),Z A l s] 132)).drew:=Ar (Al _ _) lR (As _);have db:=Au bD m6;have dd:=Au bE m6;have d8:=Au bD i1;have d9:=Au bE i1;have HC:Ae ((V.alloc (Ak #[Ag Af (q:Int),Ag Af 0,Ag Af (kl:Int),Z A l s] 132)).drew.ownsRow B 132 4 (Z (some ⟨gf,0,M⟩) (top+1) c3) (top+1) (Ad BE F)/\(∀j u,(BE (⟨(q:Int),0,(kl:Int),ar++A8 z⟩,Z A l s))[j]?=some u->(V.alloc (Ak #[Ag Af (q:Int),Ag Af 0,Ag Af (kl:Int),Z A l s] 132)).drew.cell? ((⟨V.heap.size,0,M⟩:Addr).add j)=some u)/\B<=(V.alloc (Ak #[Ag Af (q:Int),Ag Af 0,Ag Af (kl:Int),Z A l s] 132)).drew.heap.size/\AG w (V.alloc (Ak #[Ag Af (q:Int),Ag Af 0,Ag Af (kl:Int),Z A l s] 132)).drew B D top t d c n ⟨r,Z p kl c2,Z (some ⟨gf,0,M⟩) (top+1) c3⟩ C K F (Z (some ⟨G,0,M⟩) I O) L N gf op q b c' ⟨r,Z p (kl+k.length) c2,Z (some ⟨gf,0,M⟩) (top+1) c3⟩ C F/\(V.alloc (Ak #[Ag Af (q:Int),Ag Af 0,Ag Af (kl:Int),Z A l s] 132)).drew.ownsRow E 193 2 (Z A l s) l (Ad MC.cells (ar++A8 z))):=⟨by have h1:=AD E7.o.1.own.dk bE lR;simp only[]at h1;rw[H.o.2.1]at h1;exact h1, λj u S=>by have:=pD _ V.heap.size (0+j) _ _ _ (Fp V #[Ag Af (q:Int),Ag Af 0,Ag Af (kl:Int),Z A l s] 132);rw[Cq];show(V.alloc (Ak #[Ag Af (q:Int),Ag Af 0,Ag Af (kl:Int),Z A l s] 132)).cell? ⟨V.heap.size,0+j,M⟩=some u;rw[this,m9];simpa[BE]using S,mC hB (mC E7.o.1.gv.size bE.size),E7.o.1.av bE,AD E7.o.2.1 bE lR⟩
  have aO:Ae ((ar++A8 z).length=l/\E<=(V.alloc (Ak #[Ag Af (q:Int),Ag Af 0,Ag Af (kl:Int),Z A l s] 132)).drew.heap.size):=⟨by rw[mB,T.o.2.1,<-aQ.o,mB];simp[A8],mC E7.o.2.2.2 bE.size⟩
  clear m6 i1 bD bE;go_upto_region 6 with fail
  go_region_law (refine step_append_lies _ rfl (.tmp 60) (.tmp 66) 46 rfl B 132 j0 (An #[Ag Af 0,Ag Af 0,Ag Af 0,Z M 0 0]) 4 48 underlying46 S bG bH bI rfl dC (Z (some ⟨gf,0,M⟩) (top+1) c3) (top+1) (Ad BE F) oE HC.o.1 ⟨V.heap.size,0,M⟩ 1 1 (BE (⟨(q:Int),0,(kl:Int),ar++A8 z⟩,Z A l s)) oE rfl HC.o.2.1 (λu hu=>by simp[BE]at hu;rcases hu with rfl|rfl|rfl|rfl<;>rfl) oM oX oM HC.o.2.2.1 _ rfl ?_;intro gg cap u8 aY aI aT bB;have HN:Ae (AG w (Aa u8 ⟨D,6,none⟩ (Z (some ⟨gg,0,none⟩) (top+1+1) cap)) B D top t d c n ⟨r,Z p kl c2,Z (some ⟨gg,0,none⟩) (top+1+1) cap⟩ C K (F++[(⟨(q:Int),0,(kl:Int),ar++A8 z⟩,Z A l s)]) (Z (some ⟨G,0,none⟩) I O) L N gf op q b c' ⟨r,Z p (kl+k.length) c2,Z (some ⟨gf,0,none⟩) (top+1) c3⟩ C F/\BC u8 D t d c n ⟨r,Z p kl c2,Z (some ⟨gf,0,none⟩) (top+1) c3⟩ (Z (some ⟨G,0,none⟩) I O)):=⟨HC.o.2.2.2.1.lj (x:=(⟨(q:Int),0,(kl:Int),ar++A8 z⟩,Z A l s)) hY E7.o.2.2.1 (by simp only[aO.o.1];exact HC.o.2.2.2.2) aI (by rw[H.o.2.1];exact aY) (aT.elim (λe=>.inl e.symm) (λe=>.inr (λg hg=>by simp only[Value.ownBlock,lX]at hg;have:=aO.o.2;omega))),HC.o.2.2.2.1.lC aI⟩;have y0:=HN.o.2.at.2.2.2.2.2.2.1;have y1:=HN.o.2.frozen 6;simp only[]at y0;clear aY aI aT bB)
  all_goals
   go_wp2_with fail;exact nR (v:=Ap #[]) kR rfl ⟨_,HN.o.1.ia⟩
theorem Ow{P:Program}(w:Y){f:Array Oper}{o:Oper}{a:Act}{K:Act->Y->Prop}{Q:Exit->Act->Y->Prop}{E:Prop}(u:o.guard=M)(l c:Operand)(t:Aj)(y:o.op=Op.makeSlice t l c)
 (base:Nat) (e:Aj) (i:TypeInfo) (z:J) (size:Nat) (k:P.underlying t=some (.slice e)) (m:P.info? e=some i) (p:i.zero=some z) (q:i.size=size)
 (kl d:IntKind) (n:Nat) (v:a.eval l=.int kl (n:Int)) (s:a.eval c=.int d (n:Int)) (g:i.bytes*n<=281474976710656) (h:n<=maxLen) (j:base<= ↑w)
 (r:∀b,b.ownsRow base e size (sG w n n) n (madeCells z.cells (n*size)).toList->w.grownBy b M->K (a.put o.dst (sG w n n)) b):
 if Region.wanted o (yielded f a.tmps)=true then Oper.wp P o a w K Q else E:=by
 have hw:Region.wanted o (yielded f a.tmps)=true:=by simp[Region.wanted,u]
 rw[mE hw];obtain⟨b,A,B,C⟩:=run_make_full (P:=P) w base t e i z size k m p q kl d n g h j;unfold Oper.wp;simp[execOp,y,v,s,A,Result.andThen];exact r b B C
structure NT(w u:Y)(QB GS n:Nat):Prop where
 mp:AQ u QB 0 (.map [])
 sa:Ab u w 27 1 (sG GS n n) n (List.replicate n sN)
 cq:Ah w w u
 q1: ↑w<=QB
 q2:QB< ↑u
 g1: ↑w<=GS
 g2:GS< ↑u
 ne:QB≠GS
theorem NT.av{d:Y}{c b:Nat}(h:NT w u c b n)(a:Ah u u d):NT w d c b n:=⟨h.mp.av a,AD h.sa a lR,Ar h.cq lR a,h.q1,nH h.q2 a.size,h.g1,nH h.g2 a.size,h.ne⟩
theorem NT.ty{d:Nat}(h:NT w u m d n){bv:J}{a:Nat}(z:Ay u a #[v.r,v.k,v.f,v.t,g.p,f.cu,g.l,g.c,bv,.map (K m),sG d n n,iZ 0] 331)(D: ↑u=a+1)(C:m<a)(q:d<a)(hw: ↑w<=a):Gg w u v g f bv a m d n (a+1) 0 (List.replicate n sN) ⟨λ_=>false, λ_=>[],0⟩:=by
 have s:∀(j:Nat) (V:J),(List.replicate n (Z M 0 0))[j]?=K V->V=sN:= λj V e=>List.eq_of_mem_replicate (lP e)
 refine⟨z,⟨0,_,h.mp,Nat.le_refl _, λb=>rfl⟩,h.sa,sP, λj V e=> ?_,h.cq,⟨hw,h.q1,h.g1⟩,⟨oM,oM,h.ne,oM,oM,oM⟩,oM,sP, λj=>sP, λi j V W B y A g q=> ?_⟩
 . rw[s j V e];exact Hf.nil _ _
 rw[s i V y]at q;cases q
theorem T6{q:Prop}(h:q:=by
 have hA:=Al U2 (Ak #[iZ 0] 2);have:=(E2.av hA).put (t:=0) (HM.1.av hA) HM.2.1 HM.2.2 hs3 hg3;have ew:(⟨Ja (λ_=>false) 0, λ_=>[],0⟩:WI)=Wa:=by unfold Wa Ja;congr 1
 rw[<-ew];exact this):q:=h
theorem Nz(w:Y)(v:VP)(p:MP)(g:VF)(f:MF)(bv:J)(hP:Eb w v p)(hF:FD w g f)(aM:∃a n c,bv=Z a n c)(aO:f.aU.length<=1024):
 Ai Aq 243 #[.agg #[v.r,v.k,v.f,v.t,g.p,f.cu,g.l,g.c],bv] w λe u=>∃TB QB GS B RS,e=Am (.pointer (K ⟨TB,0,M⟩))/\Gg w u v g f bv TB QB GS f.aU.length B 1 RS Wa:=by
 obtain⟨E,F,A,C,G,H,f1,f3,rfl⟩:=hP.sl;obtain⟨j,m,q,s,y,z,rfl⟩:=GU hF;obtain⟨l0,hl,aI,aJ,aK⟩:=nE SN;obtain⟨I,L,bc,rfl⟩:=aM;have aQ:= @run_makeMap Aq;clear hP hF;go_enter func243,ntmps243;go_upto_region 1 with fail
 refine Av (λu=>Ae (Ay u w #[Z E p.az F,Z A p.b8 C,Z f1 p.aC f3,Z G p.bO H,Z j f.aP m,f.cu,Z q f.aB s,Z y f.aU z] 109/\Ah w w u)) ⟨Ay.new _ _ _,Al _ _⟩ ?_
 rintro U E1;have HR:=Aw (lN (E1.1.av (As _)) (Ar E1.2 lR (As _)));clear E1;have b0:U.drew w=K (Z E p.az F)/\U.drew ⟨w,1,M⟩=K (Z A p.b8 C)/\U.drew ⟨w,2,M⟩=K (Z f1 p.aC f3)/\U.drew ⟨w,3,M⟩=K (Z G p.bO H)/\U.drew ⟨w,4,M⟩=K (Z j f.aP m)/\U.drew ⟨w,5,M⟩=K ↑f.cu/\U.drew ⟨w,6,M⟩=K (Z q f.aB s)/\U.drew ⟨w,7,M⟩=K (Z y f.aU z):=by obtain⟨T,V,W,X,q4,q5,q6,q7⟩:=Lz HR.1;exact⟨T,V,W,X,q4,q5,q6,q7⟩
 refine wp_region_held_drew (S:= λw'=>w' w=K (Z E p.az F)/\w' ⟨w,1,M⟩=K (Z A p.b8 C)/\w' ⟨w,2,M⟩=K (Z f1 p.aC f3)/\w' ⟨w,3,M⟩=K (Z G p.bO H)/\w' ⟨w,4,M⟩=K (Z j f.aP m)/\w' ⟨w,5,M⟩=K ↑f.cu/\w' ⟨w,6,M⟩=K (Z q f.aB s)/\w' ⟨w,7,M⟩=K (Z y f.aU z)) kR b0 (λae=> ?_)
 clear b0;generalize U.drew=b at HR ae⊢;refine AU 0 ?_;refine AU 1 ?_;refine AU 3 ?_;refine AU 4 ?_;refine AU 5 ?_;refine AU 6 ?_;go_simp;refine wpAnyH_ready (rs:=[2,7]) kR sP ?_;refine AllReadyH.cons rfl (λKC O=> ?_) ?_
 . have hA:=Al b (.map #[] 0);have R:Ae (AQ (Ac b (.map #[] 0)) b 0 (.map [])/\Ay (Ac b (.map #[] 0)) w #[Z E p.az F,Z A p.b8 C,Z f1 p.aC f3,Z G p.bO H,Z j f.aP m,f.cu,Z q f.aB s,Z y f.aU z] 109/\Ah w w (Ac b (.map #[] 0))):=⟨World.ownsMap_made _ _ _ _,HR.1.av hA,Ar HR.2 lR hA⟩
   have b1:(Ac b (.map #[] 0)) w=K (Z E p.az F)/\(Ac b (.map #[] 0)) ⟨w,1,M⟩=K (Z A p.b8 C)/\(Ac b (.map #[] 0)) ⟨w,2,M⟩=K (Z f1 p.aC f3)/\(Ac b (.map #[] 0)) ⟨w,3,M⟩=K (Z G p.bO H)/\(Ac b (.map #[] 0)) ⟨w,4,M⟩=K (Z j f.aP m)/\(Ac b (.map #[] 0)) ⟨w,5,M⟩=K ↑f.cu/\(Ac b (.map #[] 0)) ⟨w,6,M⟩=K (Z q f.aB s)/\(Ac b (.map #[] 0)) ⟨w,7,M⟩=K (Z y f.aU z):=by obtain⟨T,V,W,X,q4,q5,q6,q7⟩:=Lz R.2.1;exact⟨T,V,W,X,q4,q5,q6,q7⟩
   go_simp;refine O.o _ _ b1 (λae=> ?_);clear O KC b1 hA;refine DO 7 ?_;intro KC O;refine Ow _ rfl _ _ 28 rfl w 27 l0 sN 1 underlying28 hl aI aJ Af Af f.aU oE oE (by rw[aK];omega) oX R.2.2.size ?_;intro N au aH;rw[H8]at au;have Q:Ae (NT w N b ((b:Nat)+1) f.aU/\Ay N w #[Z E p.az F,Z A p.b8 C,Z f1 p.aC f3,Z G p.bO H,Z j f.aP m,f.cu,Z q f.aB s,Z y f.aU z] 109):=by
    have b2:=BS aH;have aA:=(au.lt _ rfl).2;have hz:(Ac b (.map #[] 0)).heap.size= ↑b+1:=sP
    simp only[]at aA;rw[hz]at au aA;exact⟨⟨R.1.av b2,au,Ar R.2.2 lR b2,HR.2.size,oM,by have:=HR.2.size;omega,aA,oM⟩,R.2.1.av b2⟩
   have b1:N w=K (Z E p.az F)/\N ⟨w,1,M⟩=K (Z A p.b8 C)/\N ⟨w,2,M⟩=K (Z f1 p.aC f3)/\N ⟨w,3,M⟩=K (Z G p.bO H)/\N ⟨w,4,M⟩=K (Z j f.aP m)/\N ⟨w,5,M⟩=K ↑f.cu/\N ⟨w,6,M⟩=K (Z q f.aB s)/\N ⟨w,7,M⟩=K (Z y f.aU z):=by obtain⟨T,V,W,X,q4,q5,q6,q7⟩:=Lz Q.2;exact⟨T,V,W,X,q4,q5,q6,q7⟩
   clear au aH R;go_simp;refine O.o _ _ b1 (λae=> ?_);clear O KC b1;refine AU 8 ?_;refine DO 9 ?_;intro KC O;(have aa:(N:Nat)=N.heap.size:=by first|rfl|simp);have P:=Aw (lN (sP:(Ac N (Ak #[Z E p.az F,Z A p.b8 C,Z f1 p.aC f3,Z G p.bO H,Z j f.aP m,f.cu,Z q f.aB s,Z y f.aU z,Z I L bc,.map (K b),Z (K ⟨((b:Nat)+1),0,M⟩) f.aU f.aU,iZ 0] 331)).heap.size= ↑N+1) (lN ((aa▸Ay.new _ _ _):Ay (Ac N (Ak #[Z E p.az F,Z A p.b8 C,Z f1 p.aC f3,Z G p.bO H,Z j f.aP m,f.cu,Z q f.aB s,Z y f.aU z,Z I L bc,.map (K b),Z (K ⟨((b:Nat)+1),0,M⟩) f.aU f.aU,iZ 0] 331)) N #[Z E p.az F,Z A p.b8 C,Z f1 p.aC f3,Z G p.bO H,Z j f.aP m,f.cu,Z q f.aB s,Z y f.aU z,Z I L bc,.map (K b),Z (K ⟨((b:Nat)+1),0,M⟩) f.aU f.aU,iZ 0] 331) (lN ((Q.1.av (Al _ _)):NT w (Ac N (Ak #[Z E p.az F,Z A p.b8 C,Z f1 p.aC f3,Z G p.bO H,Z j f.aP m,f.cu,Z q f.aB s,Z y f.aU z,Z I L bc,.map (K b),Z (K ⟨((b:Nat)+1),0,M⟩) f.aU f.aU,iZ 0] 331)) b ((b:Nat)+1) f.aU) (lN (aa▸Q.1.q2) (lN (aa▸Q.1.g2) (aa▸Q.1.cq.size))))))
   have ai:(Ac N (Ak #[Z E p.az F,Z A p.b8 C,Z f1 p.aC f3,Z G p.bO H,Z j f.aP m,f.cu,Z q f.aB s,Z y f.aU z,Z I L bc,.map (K b),Z (K ⟨((b:Nat)+1),0,M⟩) f.aU f.aU,iZ 0] 331)) w=K (Z E p.az F)/\(Ac N (Ak #[Z E p.az F,Z A p.b8 C,Z f1 p.aC f3,Z G p.bO H,Z j f.aP m,f.cu,Z q f.aB s,Z y f.aU z,Z I L bc,.map (K b),Z (K ⟨((b:Nat)+1),0,M⟩) f.aU f.aU,iZ 0] 331)) ⟨w,1,M⟩=K (Z A p.b8 C)/\(Ac N (Ak #[Z E p.az F,Z A p.b8 C,Z f1 p.aC f3,Z G p.bO H,Z j f.aP m,f.cu,Z q f.aB s,Z y f.aU z,Z I L bc,.map (K b),Z (K ⟨((b:Nat)+1),0,M⟩) f.aU f.aU,iZ 0] 331)) ⟨w,2,M⟩=K (Z f1 p.aC f3)/\(Ac N (Ak #[Z E p.az F,Z A p.b8 C,Z f1 p.aC f3,Z G p.bO H,Z j f.aP m,f.cu,Z q f.aB s,Z y f.aU z,Z I L bc,.map (K b),Z (K ⟨((b:Nat)+1),0,M⟩) f.aU f.aU,iZ 0] 331)) ⟨w,3,M⟩=K (Z G p.bO H)/\(Ac N (Ak #[Z E p.az F,Z A p.b8 C,Z f1 p.aC f3,Z G p.bO H,Z j f.aP m,f.cu,Z q f.aB s,Z y f.aU z,Z I L bc,.map (K b),Z (K ⟨((b:Nat)+1),0,M⟩) f.aU f.aU,iZ 0] 331)) ⟨w,4,M⟩=K (Z j f.aP m)/\(Ac N (Ak #[Z E p.az F,Z A p.b8 C,Z f1 p.aC f3,Z G p.bO H,Z j f.aP m,f.cu,Z q f.aB s,Z y f.aU z,Z I L bc,.map (K b),Z (K ⟨((b:Nat)+1),0,M⟩) f.aU f.aU,iZ 0] 331)) ⟨w,5,M⟩=K ↑f.cu/\(Ac N (Ak #[Z E p.az F,Z A p.b8 C,Z f1 p.aC f3,Z G p.bO H,Z j f.aP m,f.cu,Z q f.aB s,Z y f.aU z,Z I L bc,.map (K b),Z (K ⟨((b:Nat)+1),0,M⟩) f.aU f.aU,iZ 0] 331)) ⟨w,6,M⟩=K (Z q f.aB s)/\(Ac N (Ak #[Z E p.az F,Z A p.b8 C,Z f1 p.aC f3,Z G p.bO H,Z j f.aP m,f.cu,Z q f.aB s,Z y f.aU z,Z I L bc,.map (K b),Z (K ⟨((b:Nat)+1),0,M⟩) f.aU f.aU,iZ 0] 331)) ⟨w,7,M⟩=K (Z y f.aU z):=by
    obtain⟨T,V,W,X,q4,q5,q6,q7⟩:=Lz (Q.2.av (Al N (Ak #[Z E p.az F,Z A p.b8 C,Z f1 p.aC f3,Z G p.bO H,Z j f.aP m,f.cu,Z q f.aB s,Z y f.aU z,Z I L bc,.map (K b),Z (K ⟨((b:Nat)+1),0,M⟩) f.aU f.aU,iZ 0] 331)));exact⟨T,V,W,X,q4,q5,q6,q7⟩
   go_simp;refine O.o _ _ ai (λae=> ?_);clear O KC;refine AU 10 ?_;refine wpAnyH_done kR ?_ _;clear ae ai;(go_upto_region 2 with fail);refine Av (λu=>Ae (Gg w u ⟨Z E p.az F,Z A p.b8 C,Z f1 p.aC f3,Z G p.bO H⟩ ⟨Z j f.aP m,Z q f.aB s,Z y f.aU z⟩ f (Z I L bc) N b ((b:Nat)+1) f.aU ((N:Nat)+1) 0 (List.replicate f.aU sN) ⟨λ_=>false, λ_=>[],0⟩)) (P.2.2.1.ty P.2.1 P.1 P.2.2.2.1 P.2.2.2.2.1 P.2.2.2.2.2) ?_;rintro U2 E2;clear P Q aa;generalize N.heap.size=TB at E2⊢;have c9:=E2.tb.cell 9;simp only[lQ,lO,lS]at c9;obtain⟨aF,D,ax,aj,aq⟩:=E2.mp;have HM:=Aw (lN ax (lN aj aq));clear ax aj aq;go_wp2_with fail;refine(Da b aF U2 1 D 0 _ (Dh (x:=0) oM) (by have:=HM.2.1;omega) sP (by have:=E2.ne;have:=E2.sz;omega) (HM.1.av (Al _ _))).mono ?_;rintro e u3 ⟨rfl,hs3,hg3⟩;(have E3:Ae (Gg w u3 ⟨Z E p.az F,Z A p.b8 C,Z f1 p.aC f3,Z G p.bO H⟩ ⟨Z j f.aP m,Z q f.aB s,Z y f.aU z⟩ f (Z I L bc) TB b ((b:Nat)+1) f.aU (TB+1) 1 (List.replicate f.aU sN) Wa):=by exact T6);clear hs3 hg3 HM c9;go_wp2_with fail;go_ret;exact⟨TB,_,_,_,_,rfl,E3⟩
 refine AllReadyH.cons rfl (λKC O=> ?_) AllReadyH.nil;refine Ow _ rfl _ _ 28 rfl w 27 l0 sN 1 underlying28 hl aI aJ Af Af f.aU oE oE (by rw[aK];omega) oX HR.2.size ?_;intro d aE aG;rw[H8]at aE;have R:Ae (Ab d w 27 1 (sG b f.aU f.aU) f.aU (List.replicate f.aU sN)/\Ay d w #[Z E p.az F,Z A p.b8 C,Z f1 p.aC f3,Z G p.bO H,Z j f.aP m,f.cu,Z q f.aB s,Z y f.aU z] 109/\Ah w w d/\(b:Nat)< ↑d):=by have b2:=BS aG;have aA:=(aE.lt _ rfl).2;exact⟨aE,HR.1.av b2,Ar HR.2 lR b2,aA⟩
 have b1:d w=K (Z E p.az F)/\d ⟨w,1,M⟩=K (Z A p.b8 C)/\d ⟨w,2,M⟩=K (Z f1 p.aC f3)/\d ⟨w,3,M⟩=K (Z G p.bO H)/\d ⟨w,4,M⟩=K (Z j f.aP m)/\d ⟨w,5,M⟩=K ↑f.cu/\d ⟨w,6,M⟩=K (Z q f.aB s)/\d ⟨w,7,M⟩=K (Z y f.aU z):=by obtain⟨T,V,W,X,q4,q5,q6,q7⟩:=Lz R.2.1;exact⟨T,V,W,X,q4,q5,q6,q7⟩
 clear aE aG;go_simp;refine O.o _ _ b1 (λae=> ?_);clear O KC b1;refine DO 2 ?_;intro KC O;have hA:=Al d (.map #[] 0);have Q:Ae (NT w (Ac d (.map #[] 0)) d b f.aU/\Ay (Ac d (.map #[] 0)) w #[Z E p.az F,Z A p.b8 C,Z f1 p.aC f3,Z G p.bO H,Z j f.aP m,f.cu,Z q f.aB s,Z y f.aU z] 109):=by have l1:=R.2.2.2;have l2:=R.2.2.1.size;have l3:=HR.2.size;exact⟨⟨World.ownsMap_made _ _ _ _,AD R.1 hA lR,Ar R.2.2.1 lR hA,l2,sP,l3,oT,oM⟩,R.2.1.av hA⟩
 have b1:(Ac d (.map #[] 0)) w=K (Z E p.az F)/\(Ac d (.map #[] 0)) ⟨w,1,M⟩=K (Z A p.b8 C)/\(Ac d (.map #[] 0)) ⟨w,2,M⟩=K (Z f1 p.aC f3)/\(Ac d (.map #[] 0)) ⟨w,3,M⟩=K (Z G p.bO H)/\(Ac d (.map #[] 0)) ⟨w,4,M⟩=K (Z j f.aP m)/\(Ac d (.map #[] 0)) ⟨w,5,M⟩=K ↑f.cu/\(Ac d (.map #[] 0)) ⟨w,6,M⟩=K (Z q f.aB s)/\(Ac d (.map #[] 0)) ⟨w,7,M⟩=K (Z y f.aU z):=by obtain⟨T,V,W,X,q4,q5,q6,q7⟩:=Lz Q.2;exact⟨T,V,W,X,q4,q5,q6,q7⟩
 go_simp;refine O.o _ _ b1 (λae=> ?_);clear O KC b1 hA R;refine AU 8 ?_;refine DO 9 ?_;intro KC O;have aa:(Ac d (.map #[] 0)).heap.size=((d:Nat)+1):=by first|rfl|simp
 have P:=Aw (lN (sP:(Ac (Ac d (.map #[] 0)) (Ak #[Z E p.az F,Z A p.b8 C,Z f1 p.aC f3,Z G p.bO H,Z j f.aP m,f.cu,Z q f.aB s,Z y f.aU z,Z I L bc,.map (K d),sG b f.aU f.aU,iZ 0] 331)).heap.size=((d:Nat)+1)+1) (lN ((aa▸Ay.new _ _ _):Ay (Ac (Ac d (.map #[] 0)) (Ak #[Z E p.az F,Z A p.b8 C,Z f1 p.aC f3,Z G p.bO H,Z j f.aP m,f.cu,Z q f.aB s,Z y f.aU z,Z I L bc,.map (K d),sG b f.aU f.aU,iZ 0] 331)) ((d:Nat)+1) #[Z E p.az F,Z A p.b8 C,Z f1 p.aC f3,Z G p.bO H,Z j f.aP m,f.cu,Z q f.aB s,Z y f.aU z,Z I L bc,.map (K d),sG b f.aU f.aU,iZ 0] 331) (lN ((Q.1.av (Al _ _)):NT w (Ac (Ac d (.map #[] 0)) (Ak #[Z E p.az F,Z A p.b8 C,Z f1 p.aC f3,Z G p.bO H,Z j f.aP m,f.cu,Z q f.aB s,Z y f.aU z,Z I L bc,.map (K d),sG b f.aU f.aU,iZ 0] 331)) d b f.aU) (lN (aa▸Q.1.q2) (lN (aa▸Q.1.g2) (aa▸Q.1.cq.size))))))
 have ai:(Ac (Ac d (.map #[] 0)) (Ak #[Z E p.az F,Z A p.b8 C,Z f1 p.aC f3,Z G p.bO H,Z j f.aP m,f.cu,Z q f.aB s,Z y f.aU z,Z I L bc,.map (K d),sG b f.aU f.aU,iZ 0] 331)) w=K (Z E p.az F)/\(Ac (Ac d (.map #[] 0)) (Ak #[Z E p.az F,Z A p.b8 C,Z f1 p.aC f3,Z G p.bO H,Z j f.aP m,f.cu,Z q f.aB s,Z y f.aU z,Z I L bc,.map (K d),sG b f.aU f.aU,iZ 0] 331)) ⟨w,1,M⟩=K (Z A p.b8 C)/\(Ac (Ac d (.map #[] 0)) (Ak #[Z E p.az F,Z A p.b8 C,Z f1 p.aC f3,Z G p.bO H,Z j f.aP m,f.cu,Z q f.aB s,Z y f.aU z,Z I L bc,.map (K d),sG b f.aU f.aU,iZ 0] 331)) ⟨w,2,M⟩=K (Z f1 p.aC f3)/\(Ac (Ac d (.map #[] 0)) (Ak #[Z E p.az F,Z A p.b8 C,Z f1 p.aC f3,Z G p.bO H,Z j f.aP m,f.cu,Z q f.aB s,Z y f.aU z,Z I L bc,.map (K d),sG b f.aU f.aU,iZ 0] 331)) ⟨w,3,M⟩=K (Z G p.bO H)/\(Ac (Ac d (.map #[] 0)) (Ak #[Z E p.az F,Z A p.b8 C,Z f1 p.aC f3,Z G p.bO H,Z j f.aP m,f.cu,Z q f.aB s,Z y f.aU z,Z I L bc,.map (K d),sG b f.aU f.aU,iZ 0] 331)) ⟨w,4,M⟩=K (Z j f.aP m)/\(Ac (Ac d (.map #[] 0)) (Ak #[Z E p.az F,Z A p.b8 C,Z f1 p.aC f3,Z G p.bO H,Z j f.aP m,f.cu,Z q f.aB s,Z y f.aU z,Z I L bc,.map (K d),sG b f.aU f.aU,iZ 0] 331)) ⟨w,5,M⟩=K ↑f.cu/\(Ac (Ac d (.map #[] 0)) (Ak #[Z E p.az F,Z A p.b8 C,Z f1 p.aC f3,Z G p.bO H,Z j f.aP m,f.cu,Z q f.aB s,Z y f.aU z,Z I L bc,.map (K d),sG b f.aU f.aU,iZ 0] 331)) ⟨w,6,M⟩=K (Z q f.aB s)/\(Ac (Ac d (.map #[] 0)) (Ak #[Z E p.az F,Z A p.b8 C,Z f1 p.aC f3,Z G p.bO H,Z j f.aP m,f.cu,Z q f.aB s,Z y f.aU z,Z I L bc,.map (K d),sG b f.aU f.aU,iZ 0] 331)) ⟨w,7,M⟩=K (Z y f.aU z):=by
  obtain⟨T,V,W,X,q4,q5,q6,q7⟩:=Lz (Q.2.av (Al (Ac d (.map #[] 0)) (Ak #[Z E p.az F,Z A p.b8 C,Z f1 p.aC f3,Z G p.bO H,Z j f.aP m,f.cu,Z q f.aB s,Z y f.aU z,Z I L bc,.map (K d),sG b f.aU f.aU,iZ 0] 331)));exact⟨T,V,W,X,q4,q5,q6,q7⟩
 go_simp;refine O.o _ _ ai (λae=> ?_);clear O KC;refine AU 10 ?_;refine wpAnyH_done kR ?_ _;clear ae ai;go_upto_region 2 with fail
 refine Av (λu=>Ae (Gg w u ⟨Z E p.az F,Z A p.b8 C,Z f1 p.aC f3,Z G p.bO H⟩ ⟨Z j f.aP m,Z q f.aB s,Z y f.aU z⟩ f (Z I L bc) ((d:Nat)+1) d b f.aU (((d:Nat)+1)+1) 0 (List.replicate f.aU sN) ⟨λ_=>false, λ_=>[],0⟩)) (P.2.2.1.ty P.2.1 P.1 P.2.2.2.1 P.2.2.2.2.1 P.2.2.2.2.2) ?_;rintro U2 E2;clear P Q aa;generalize (d.heap.size+1)=TB at E2⊢;have c9:=E2.tb.cell 9;simp only[lQ,lO,lS]at c9;obtain⟨aF,D,ax,aj,aq⟩:=E2.mp;have HM:=Aw (lN ax (lN aj aq));clear ax aj aq;go_wp2_with fail;refine(Da d aF U2 1 D 0 _ (Dh (x:=0) oM) (by have:=HM.2.1;omega) sP (by have:=E2.ne;have:=E2.sz;omega) (HM.1.av (Al _ _))).mono ?_;rintro e u3 ⟨rfl,hs3,hg3⟩;have E3:Ae (Gg w u3 ⟨Z E p.az F,Z A p.b8 C,Z f1 p.aC f3,Z G p.bO H⟩ ⟨Z j f.aP m,Z q f.aB s,Z y f.aU z⟩ f (Z I L bc) TB d b f.aU (TB+1) 1 (List.replicate f.aU sN) Wa):=by exact T6
 clear hs3 hg3 HM c9;go_wp2_with fail;go_ret;exact⟨TB,_,_,_,_,rfl,E3⟩
theorem X4(p:MP)(f:MF)(c:Nat):∀(a:Nat) (d:List Int) (T:Nat->List Int) (D:Nat),(∀j,(T j).length<=D)->d.length<=D->∀s2 e b,El p f c a d T D=.inr (s2,e,b)->(∀j,(e j).length<=b)/\s2.length<=b:=by
 induction c with
 | zero=>intro a d T D g k s2 e b h;simp only[El,Sum.inr.injEq,Prod.mk.injEq]at h;obtain⟨rfl,rfl,rfl⟩:=h;exact⟨g,k⟩
 | succ c m=>
   intro a d T D g k s2 e b h;cases hx:f.aU[a]? with
   | none=>simp only[El,hx,Sum.inr.injEq,Prod.mk.injEq]at h;obtain⟨rfl,rfl,rfl⟩:=h;exact⟨g,k⟩
   | some x=>
     simp only[El,hx]at h;by_cases l:Cd p f x d=0
     . rw[mE l]at h;refine m _ _ _ _ (λj=> ?_) oM _ _ _ h;simp only[ET];split
       . omega
       have:=g j;omega
     rw[lY l]at h;cases h
theorem UX{e:List MB}{d:List Int}{D:Nat}(f: ↑d<=D)(nx:List Nat):∀(C:Nat->Bool) (R:Nat->List Int),(∀j,(R j).length<=D)->∀C2 a,EY e nx d C R=K (C2,a)->∀j,(a j).length<=D:=by
 induction nx with
 | nil=>intro C R b C2 a h;simp only[EY,lX,Prod.mk.injEq]at h;rw[<-h.2];exact b
 | cons t nx c=>
   intro C R b C2 a h;rw[EY]at h;split at h
   . split at h
     . exact c _ _ b _ _ h
     cases h
   refine c _ _ (λj=> ?_) _ _ h;simp only[ET];split
   . exact f
   exact b j
theorem VD{a:List MB}{m:MB}{s':WI}(b:∀j,(s.r j).length<=s.d)(h:G6 p f a m s=.inr s'):∀j,(s'.r j).length<=s'.d:=by
 unfold G6 at h;cases hk:El p f (m.last-m.cz+1).toNat m.cz.toNat (s.r m.cz.toNat) s.r s.d with
 |inl e=>rw[hk]at h;cases h
 | inr q=>
   obtain⟨l,R,D⟩:=q;rw[hk]at h;obtain⟨g,k⟩:=X4 p f _ _ _ _ _ b (b _) _ _ _ hk;simp only[]at h;cases hm:EY a (m.next.map Int.toNat) l s.c R with
   |none=>rw[hm]at h;cases h
   | some q=>obtain⟨C2,n⟩:=q;rw[hm]at h;simp only[Sum.inr.injEq]at h;subst h;exact UX k _ _ _ g _ _ hm
theorem X6{a:List MB}{c:List Int}{b:Nat}{z:Int}{m:MB}{d:OQ}(h:Hz p f a ((c.map Int.toNat).drop k) s=d)(l:c[k]?=K z)(g:z=(b:Int))(j:a[b]?=K m):(match G6 p f a m s with|.inl e=>Sum.inl e|.inr s'=>Hz p f a ((c.map Int.toNat).drop (k+1)) s')=d:=by
 have e:(c.map Int.toNat)[k]?=K b:=by rw[mN,l,g];simp
 rw[TF e,Hz,j]at h;exact h
theorem P6.av{b:Y}(h:P6 w v p g f)(a:Ah w w b):P6 b v p g f:=⟨h.ps,h.pf,h.fs,h.rp.av a lR,h.rf.av a lR,h.c1,h.cl,h.pl,h.ok,h.last⟩
theorem JL.l8{e:Y}{b d c:J}(h:JL w b d c vl r)(a:Ah w w e):JL e b d c vl r:=⟨h.a7.av a lR,h.dr.av a lR,h.fv.av a lR,h.cv.av a lR⟩
theorem Vw{j l k:J}(h:JL w j l k vl r):∃d c1 e c2 f c3 g c4,j=Z d r.a7 c1/\l=Z e r.dr c2/\k=Z f r.fv c3/\vl=Z g r.cv c4:=by
 obtain⟨d,c1,m⟩:∃a c,j=Z a r.a7 c:=by obtain⟨_,_,b,_⟩:=h.a7;exact b.aD
 obtain⟨e,c2,n⟩:=h.dr.aD;obtain⟨f,c3,p⟩:=h.fv.aD;obtain⟨g,c4,q⟩:∃a c,vl=Z a r.cv c:=by obtain⟨_,_,b,_⟩:=h.cv;exact b.aD
 exact⟨d,c1,e,c2,f,c3,g,c4,m,n,p,q⟩
structure tY(xs:List MI)(r:DQ):Prop where
 eI:PQ xs r.a7
 nb:r.a7.length<=1024
 two:∀m∈r.a7,m.next.length<=2
 len:r.dr.length<=1024
 ord:∀z∈r.dr,∃b:Nat,z=(b:Int)/\b< ↑r.a7
 lG:∀(b:Nat) (m:MB),r.a7[b]?=K m->∀z∈m.next,∃t:Nat,z=(t:Int)/\t< ↑r.a7
theorem Ba.lI{xs:List MI}(h:Ba xs r)(a:r.aU=0):tY xs r:=by
 have d:=h.iy a;cases h with
 |none _=>cases a
 |off _ _ _=>cases a
 |lost _ _ _ _ _ _ _ _=>cases a
 |two _ _ _ _ _ _ _ _=>cases a
 | good g x1 o1 v1 s1 d1 b1 i1 l1=>
   obtain⟨p,q,j,l,_⟩:=DN (GN g) (Ml g) v1 s1;refine⟨Qd g,d.nb,d.two,?_, λz c=> ?_, λb m k z c=> ?_⟩
   . simp only[];rw[A4,nP,j];exact Gv g
   . obtain⟨b,f,rfl⟩:=mV.1 c;exact⟨b,rfl,(l b).1 (nL.1 f)⟩
   obtain⟨e,n⟩:=I9 g k c;exact⟨z.toNat,(pJ e).symm,oS⟩
def TyO(w:Y)(y:R7)(e:Ending)(a:Y):Prop:=∃(s:J) (F:List (List Int×J)),e=Am (An #[y.aU,y.at_,y.depth,s])/\KP a w s F/\F.map Prod.fst=y.eC/\F.length<=1024/\(∀x∈F,x.1.length<=64)/\Ah w w a
theorem XK(u:Y)(b:Nat):KP u b sN []:=⟨mX _ _ _ _,⟨λx a=>(by cases a),.nil⟩⟩
theorem Gg.told{bv:J}{F E t N:Nat}{b:List J}(h:Gg w u v g f bv F E t n B N b s){X:Nat}(H:base<= ↑w)(W:X< ↑w)(T U V x3:J):KP (Aa (Aa (Aa (u.setCell X T) ⟨X,1,M⟩ U) ⟨X,2,M⟩ V) ⟨X,3,M⟩ x3) base (sG t n n) (((List.range n).map s.r).zip b)/\(((List.range n).map s.r).zip b).map Prod.fst=(List.range n).map s.r/\(((List.range n).map s.r).zip b).length=n/\∀x∈((List.range n).map s.r).zip b,x.1.length<=64:=by
 obtain⟨n1,n2,n3,n4,n5,n6⟩:=h.ne;obtain⟨l1,l2,l3⟩:=h.lo;have m:((List.range n).map s.r).length=b.length:=by simp[h.sl]
 have l:∀(j:Nat) (x:List Int×J),(((List.range n).map s.r).zip b)[j]?=K x->s.r j=x.1/\b[j]?=K x.2:= λj x c=>by
  obtain⟨k,d⟩:((List.range n).map s.r)[j]?=K x.1/\b[j]?=K x.2:=List.getElem?_zip_eq_some.1 c
  rw[mN]at k;obtain⟨q,O,P⟩:=nJ.1 k;obtain⟨i1,D⟩:=f7.1 O;rw[List.getElem_range]at D;subst D;exact⟨P,d⟩
 have C:(((List.range n).map s.r).zip b).length=n:=by rw[List.length_zip,m];simp[h.sl]
 refine⟨⟨?_, λx p=> ?_,?_⟩,List.map_fst_zip (Nat.le_of_eq m),C, λx p=> ?_⟩
 . have e:Ad Hy (((List.range n).map s.r).zip b)=b:=by
    have:∀(A:List (List Int)) (R:List J),A.length= ↑R->Ad Hy (A.zip R)=R:=by
     intro A;induction A with
     |nil=>intro R h;cases R with|nil=>rfl|cons _ _=>simp at h
     | cons a A S=>intro R h;cases R with
       |nil=>simp at h
       |cons v R=>rw[List.zip_cons_cons,mv,S R (by simpa using h)];rfl
    exact this _ _ m
   rw[e,C];exact Bm (mY (mY (mY (mY h.sa oS _) oS _) oS _) oS _) H
 . obtain⟨y,Q,rfl⟩:=mV.1 p;obtain⟨j,c⟩:=nB Q;obtain⟨k,d⟩:=l j y c;have z:=h.rs j y.2 d;rw[k]at z;exact Bm ((((z.set (a:=⟨X,0,M⟩) oS _).set (a:=⟨X,1,M⟩) oS _).set (a:=⟨X,2,M⟩) oS _).set (a:=⟨X,3,M⟩) oS _) oM
 . unfold qf;rw[oj,oH];intro i j L c aa g I;obtain⟨_,d⟩:=l i _ (an L);obtain⟨_,G⟩:=l j _ (an c);exact h.ap i j _ _ oM d G g I
 obtain⟨j,c⟩:=nB p;rw[<-(l j x c).1];exact h.rl j
theorem RG(w:Y)(v:VP)(p:MP)(g:VF)(f:MF)(r:DQ)(fc fa:Int)(vb vo vi vl:J)(ai:P6 w v p g f)(aJ:Ba f.aU r)(h0:r.aU=0)(aK:JL w vb vo vi vl r):
 Ai Aq 242 #[An #[v.r,v.k,v.f,v.t,g.p,f.cu,g.l,g.c],An #[fc,fa,vb,vo,vi,vl]] w (TyO w (RE f.aU (J6 p f r.a7 (r.dr.map Int.toNat) Wb))):=by
 obtain⟨O,P,L,N,Q,T,f1,f3,rfl⟩:=ai.rp.sl;obtain⟨y,A,C,D,F,I,rfl⟩:=GU ai.rf;obtain⟨v1,c1,v2,c2,v3,c3,v4,c4,rfl,rfl,rfl,rfl⟩:=Vw aK;rw[rS aJ h0];obtain⟨aQ,aH⟩:∃R,R=Hz p f r.a7 (r.dr.map Int.toNat) Wa:=⟨_,rfl⟩;rw[<-aH];have aM:=Aw aH.symm;have HO:=Aw (aJ.lI h0);have H:=Aw (lN ai aK);have bf:f.aU.length<=1024:=ai.cl;have bJ:r.dr.length<=1024:=HO.len;have E0:Ay (Ac (Ac (Ac w (Ak #[Z O p.az P,Z L p.b8 N,Z f1 p.aC f3,Z Q p.bO T,Z y f.aP A,f.cu,Z C f.aB D,Z F f.aU I] 109)) (Ak #[fc,fa,Z v1 r.a7 c1,Z v2 r.dr c2,Z v3 r.fv c3,Z v4 r.cv c4] 61)) (Ak #[iZ 0,iZ 0,iZ 0,sN] 209)) w #[Z O p.az P,Z L p.b8 N,Z f1 p.aC f3,Z Q p.bO T,Z y f.aP A,f.cu,Z C f.aB D,Z F f.aU I] 109/\Ay (Ac (Ac (Ac w (Ak #[Z O p.az P,Z L p.b8 N,Z f1 p.aC f3,Z Q p.bO T,Z y f.aP A,f.cu,Z C f.aB D,Z F f.aU I] 109)) (Ak #[fc,fa,Z v1 r.a7 c1,Z v2 r.dr c2,Z v3 r.fv c3,Z v4 r.cv c4] 61)) (Ak #[iZ 0,iZ 0,iZ 0,sN] 209)) ((w:Nat)+1) #[fc,fa,Z v1 r.a7 c1,Z v2 r.dr c2,Z v3 r.fv c3,Z v4 r.cv c4] 61/\Ay (Ac (Ac (Ac w (Ak #[Z O p.az P,Z L p.b8 N,Z f1 p.aC f3,Z Q p.bO T,Z y f.aP A,f.cu,Z C f.aB D,Z F f.aU I] 109)) (Ak #[fc,fa,Z v1 r.a7 c1,Z v2 r.dr c2,Z v3 r.fv c3,Z v4 r.cv c4] 61)) (Ak #[iZ 0,iZ 0,iZ 0,sN] 209)) ((w:Nat)+1+1) #[iZ 0,iZ 0,iZ 0,sN] 209/\Ah w w (Ac (Ac (Ac w (Ak #[Z O p.az P,Z L p.b8 N,Z f1 p.aC f3,Z Q p.bO T,Z y f.aP A,f.cu,Z C f.aB D,Z F f.aU I] 109)) (Ak #[fc,fa,Z v1 r.a7 c1,Z v2 r.dr c2,Z v3 r.fv c3,Z v4 r.cv c4] 61)) (Ak #[iZ 0,iZ 0,iZ 0,sN] 209)):=by
  obtain⟨e1,e2,e3⟩:=Bw w #[Z O p.az P,Z L p.b8 N,Z f1 p.aC f3,Z Q p.bO T,Z y f.aP A,f.cu,Z C f.aB D,Z F f.aU I] #[fc,fa,Z v1 r.a7 c1,Z v2 r.dr c2,Z v3 r.fv c3,Z v4 r.cv c4] 109 61;have hz:(Ac (Ac w (Ak #[Z O p.az P,Z L p.b8 N,Z f1 p.aC f3,Z Q p.bO T,Z y f.aP A,f.cu,Z C f.aB D,Z F f.aU I] 109)) (Ak #[fc,fa,Z v1 r.a7 c1,Z v2 r.dr c2,Z v3 r.fv c3,Z v4 r.cv c4] 61)).heap.size= ↑w+1+1:=sP
  have e4:=Ay.new (Ac (Ac w (Ak #[Z O p.az P,Z L p.b8 N,Z f1 p.aC f3,Z Q p.bO T,Z y f.aP A,f.cu,Z C f.aB D,Z F f.aU I] 109)) (Ak #[fc,fa,Z v1 r.a7 c1,Z v2 r.dr c2,Z v3 r.fv c3,Z v4 r.cv c4] 61)) #[iZ 0,iZ 0,iZ 0,sN] 209;rw[hz]at e4;exact⟨e1.av (Al _ _),e2.av (Al _ _),e4,Ar e3 lR (Al _ _)⟩
 clear ai aK aJ aH h0;go_enter func242,ntmps242;go_upto_region 1 with fail
 refine Av (λu=>Ae (Ay u w #[Z O p.az P,Z L p.b8 N,Z f1 p.aC f3,Z Q p.bO T,Z y f.aP A,f.cu,Z C f.aB D,Z F f.aU I] 109/\Ay u ((w:Nat)+1) #[fc,fa,Z v1 r.a7 c1,Z v2 r.dr c2,Z v3 r.fv c3,Z v4 r.cv c4] 61/\Ay u ((w:Nat)+1+1) #[iZ 0,iZ 0,iZ 0,sN] 209/\Ah w w u)) E0 ?_
 rintro U V;clear E0;obtain⟨s0,s1,s2,s3,s4,s5,s6,s7⟩:=Lz V.1;obtain⟨y0,y1,y2,y3,y4,y5⟩:=IL V.2.1;go_wp2_with fail;refine(Nz U ⟨Z O p.az P,Z L p.b8 N,Z f1 p.aC f3,Z Q p.bO T⟩ p ⟨Z y f.aP A,Z C f.aB D,Z F f.aU I⟩ f (Z v1 r.a7 c1) (H.1.rp.av V.2.2.2 lR) (H.1.rf.av V.2.2.2 lR) ⟨_,_,_,rfl⟩ bf).mono ?_;rintro e u1 ⟨TB,QB,GS,B,RS,rfl,aj⟩;have E2:=Aw aj;have n:=Aw (lN V.1 (lN V.2.1 (lN V.2.2.1 (lN V.2.2.2 (lN (H.1.av V.2.2.2) (H.2.l8 V.2.2.2))))));have bg:(w:Nat)+1+1<U.heap.size:=V.2.2.1.lt;clear aj V s0 s1 s2 s3 s4 s5 s6 s7 y0 y1 y2 y3 y4 y5;obtain⟨y0,y1,y2,y3,y4,y5⟩:=IL (n.2.1.av E2.cq);go_wp2_with fail;clear y0 y1 y2 y3 y4 y5;go_loopw [16] (λi wr=>∃(k:Nat) (RS:List J) (s:WI),k<= ↑r.dr/\i=iZ k/\Ae (Hz p f r.a7 ((r.dr.map Int.toNat).drop k) s=aQ/\∀j,(s.r j).length<=s.d)/\Ae (Gg U wr ⟨Z O p.az P,Z L p.b8 N,Z f1 p.aC f3,Z Q p.bO T⟩ ⟨Z y f.aP A,Z C f.aB D,Z F f.aU I⟩ f (Z v1 r.a7 c1) TB QB GS f.aU B (2*k+1) RS s)) (λi _=> ↑r.dr-(intOf i).toNat)
 case atStart=>exact⟨0,RS,Wa,oM,rfl,⟨by rw[List.drop_zero];exact aM, λj=>by simp[Wa]⟩,E2⟩
 case round=>
 clear E2 aM;clear RS;obtain⟨k,RS,s,hk,rfl,HS,E⟩:=hrel;obtain⟨y0,y1,y2,y3,y4,y5⟩:=IL (n.2.1.av E.cq);by_cases br:k< ↑r.dr
 case pos=>
  obtain⟨z,hz⟩:∃z,r.dr[k]?=K z:=⟨_,an br⟩;obtain⟨b,ez,hb⟩:=HO.ord z (lP hz);subst ez;obtain⟨m,hm⟩:∃m,r.a7[b]?=K m:=⟨_,an hb⟩;obtain⟨ma,me,aE,aF,bH,bI⟩:=HO.eI.part b m hm;obtain⟨gb,ob,xa,xc,ev,x0,x1,x2,aa⟩:=Ty n.2.2.2.2.2.a7 hm;subst ev;rw[aE,<-E.cq.cell (lT x0)]at x0;rw[aF,<-E.cq.cell (lT x1)]at x1;rw[<-E.cq.cell (lT x2)]at x2;rcases n.2.2.2.2.2.dr.2 with⟨q0,_⟩|⟨gd,od,cd,W,aZ⟩
  . omega
  simp only[lU,mj]at W;obtain⟨bt,bu⟩:=W;subst bt;have z0:=Rd.elem AE aZ k _ hz 0 _ rfl;rw[nX,mL,<-E.cq.cell (lT z0)]at z0;have HZ:=Aw (lN hz (lN hm (lN aE (lN aF aa))));have bB:(b:Int)<(r.a7:Int):=oM;have bq:(k:Int)<(r.dr:Int):=oM;clear aZ hz hm aE aF aa bu;go_wp2_with fail;refine(RA U wr ⟨Z O p.az P,Z L p.b8 N,Z f1 p.aC f3,Z Q p.bO T⟩ p ⟨Z y f.aP A,Z C f.aB D,Z F f.aU I⟩ f (sO gb ob r.a7 c1) (Z xa m.next xc) TB QB GS B (2*k+1) RS s r.a7 b m ma me E n.2.2.2.2.1 n.2.2.2.2.2.a7 HO.eI HZ.2.1 HZ.2.2.1 HZ.2.2.2.1 HZ.2.2.2.2 (HO.two m (lP HZ.2.1)) (HO.lG b m HZ.2.1) HO.nb oM (HS.2 ma)).mono ?_;intro e u2 aq;have ae:=X6 HS.1 HZ.1 rfl HZ.2.1;clear x0 x1 x2 z0 y0 y1 y2 y3 y4 y5;cases aa:G6 p f r.a7 m s with
  | inl q=>
    obtain⟨c,a⟩:=q;rw[aa]at aq ae;obtain⟨rfl,bi,b2⟩:=aq;have au:=Aw ae.symm;(have bC:(c != 0)=true:=by simpa using bi);clear ae aa E;(go_upto_region 6 with fail);refine Av (λu=>Ae (Ay u u2 #[c,a,iZ 0,sN] 209/\Ah U U u)) ⟨Ay.new _ _ _,Ar b2 lR (Al _ _)⟩ ?_
    rintro U3 E3;generalize u2.heap.size=Y3 at E3⊢;clear b2;obtain⟨x0,x1,x2,x3⟩:=Cv E3.1;obtain⟨q0,W,q2,q3⟩:=Cv (n.2.2.1.av E3.2);obtain⟨aR,aS,aT,aW⟩:=WZ (n.2.2.1.av E3.2);go_wp2_with fail;have G:Ae _:=((((n.2.2.1.av E3.2).set 0 (iZ (c))).set 1 (iZ ((a:Int)))).set 2 (iZ (0))).set 3 sN;simp only[mO,mi,mh]at G;clear q0 W q2 q3;obtain⟨q0,W,q2,q3⟩:=Cv G;refine mM (v:=An #[iZ (c),iZ ((a:Int)),iZ (0),sN]) (by simp[results,results242,go_sem,q0,W,q2,q3]) rfl ?_;have aI:=Ar n.2.2.2.1 lR E3.2;rw[au];exact⟨sN,[],rfl,XK _ _,rfl,sP, λx hx=>(by cases hx),((((aI.setCell oS _).setCell oS _).setCell oS _).setCell oS _)⟩
  | inr s'=>
    rw[aa]at aq ae;obtain⟨rfl,aO,N',bx,aj⟩:=aq;have HN:=Aw (lN ae (VD HS.2 aa));have E3:=Aw (aj.more oM);clear ae aa aj E;(go_upto_region 6 with fail);refine Av (λu=>Ae (Ay u u2 #[iZ 0,iZ 0,iZ 0,sN] 209/\Gg U u ⟨Z O p.az P,Z L p.b8 N,Z f1 p.aC f3,Z Q p.bO T⟩ ⟨Z y f.aP A,Z C f.aB D,Z F f.aU I⟩ f (sO gb ob r.a7 c1) TB QB GS f.aU B (2*(k+1)+1) aO s')) ⟨Ay.new _ _ _,E3.av (Al _ _)⟩ ?_
    rintro U3 E4;generalize u2.heap.size=Y3 at E4⊢;clear E3;obtain⟨x0,x1,x2,x3⟩:=Cv E4.1;go_wp2_with fail;go_roundw;(case rel=>exact⟨k+1,aO,s',oM,by go_num,HN,E4.2⟩);exact oI
 case neg=>
  have bG:k=r.dr.length:=oM;have au:Ae (aQ=.inr s):=by have:=HS.1;have bj:(r.dr.map Int.toNat).drop k=[]:=List.drop_eq_nil_of_le (by rw[mQ];omega);rw[bj,Hz]at this;exact this.symm
  have bq:¬(k:Int)<(r.dr:Int):=oM;go_upto_region 9 with fail
  clear y0 y1 y2 y3 y4 y5;have HR:=Aw (E.av (As _));clear E;have ax:wr.drew ⟨TB,10,M⟩=K (sG GS f.aU f.aU):=HR.tb.cell 10;have aA:wr.drew ⟨TB,11,M⟩=K ↑s.d:=HR.tb.cell 11
  have aY:¬TB= ↑w+1+1:=by have:=HR.lo;omega
  have rb:=n.2.2.1.av HR.cq;obtain⟨q0,W,q2,q3⟩:=Cv rb;obtain⟨aR,aS,aT,aW⟩:=WZ rb;have G:Ae _:=(((rb.set 0 (iZ 0)).set 1 (iZ 0)).set 2 s.d).set 3 (sG GS f.aU f.aU);simp only[mO,mi,mh]at G;refine wp_region_held_drew (S:= λw'=>w' ⟨TB,10,M⟩=K (sG GS f.aU f.aU)/\w' ⟨TB,11,M⟩=K ↑s.d) kR ⟨ax,aA⟩ (λaG=> ?_)
  generalize wr.drew=WD at HR aG ax aA rb q0 W q2 q3 aR aS aT aW G⊢;refine AU 0 ?_;refine AU 1 ?_;refine AU 2 ?_;refine AU 3 ?_;refine AU 4 ?_;refine AU 5 ?_;refine AU 6 ?_;refine AU 7 ?_;refine AU 8 ?_;refine DO 9 ?_;intro KC aX;go_simp;refine aX.o _ _ ?_ (λaG=> ?_)
  . constructor
    . (repeat rw[World.cell?_setCell_far _ _ _ _ (λe=>aY e.symm)]);exact ax
    (repeat rw[World.cell?_setCell_far _ _ _ _ (λe=>aY e.symm)]);exact aA
  clear aX KC;refine wpAnyH_done kR ?_ _;clear aG;clear q0 W q2 q3;obtain⟨q0,W,q2,q3⟩:=Cv G;have HT:=HR.told (X:=(w:Nat)+1+1) (base:=w) n.2.2.2.1.size bg (iZ 0) (iZ 0) s.d (sG GS f.aU f.aU);have aI:=Ar n.2.2.2.1 lR HR.cq;go_wp2_with fail;refine mM (v:=An #[iZ 0,iZ 0,s.d,sG GS f.aU f.aU]) (by simp[results,results242,go_sem,q0,W,q2,q3]) rfl ?_;rw[au];exact⟨_,_,rfl,HT.1,HT.2.1,by rw[HT.2.2.1];exact bf,HT.2.2.2,((((aI.setCell oS _).setCell oS _).setCell oS _).setCell oS _)⟩
theorem ZX(B r top:Nat)(t:Int)(d:Bool)(c n:Int)(X:VS)(C:List (J×List MC))(K:List MC)(F:List (MG×J))(R:J)(gf c3 a k z b:Nat)(y:MG×J)(w:Y)(h:AB w B X C K F)(Q:BC w r t d c n X R)(hF: ↑F=top+1)(ax:top<=1048576)(S:F[top]?=some y)(O:X.f=Z gf (top+1) c3)(ae:R=(Z a k z))(P:y.1.func=b)(hk:b<k)(aE:k<=1048576):
 Ai Aq 47 #[.pointer r] w λe w'=>e=Am (An #[.pointer (some ⟨a,b*9,M⟩),.pointer (some ⟨gf,top*4,M⟩)])/\Ah w w w':=by
 subst ae;obtain⟨p,q,x3⟩:=X;simp only[]at O;subst O;have N:Ae (BC (Ac w (Ak #[.pointer M,.pointer M] 143)) r t d c n ⟨p,q,Z gf (top+1) c3⟩ (Z a k z)/\AB (Ac w (Ak #[.pointer M,.pointer M] 143)) B ⟨p,q,Z gf (top+1) c3⟩ C K F/\Ay (Ac w (Ak #[.pointer M,.pointer M] 143)) w #[.pointer M,.pointer M] 143/\Ah w w (Ac w (Ak #[.pointer M,.pointer M] 143))):=⟨Q.av (Al _ _),h.grow (Al _ _),Ay.new _ _ _,Al _ _⟩
 have H:Ae (↑F=top+1/\F[top]?=some y/\y.1.func=b):=⟨hF,S,P⟩
 have aA:(b:Int)<(k:Int):=oM;have aF:IntKind.i64.wrap (top:Int)=(top:Int):=oY _ oM;clear h Q S P;go_enter func47,ntmps47;go_upto_region 1 with fail
 refine Av (λu=>Ae (BC u r t d c n ⟨p,q,Z gf (top+1) c3⟩ (Z a k z)/\AB u B ⟨p,q,Z gf (top+1) c3⟩ C K F/\Ay u w #[.pointer M,.pointer M] 143/\Ah w w u)) N ?_
 rintro U l;clear N;have G:=l.1.at.2.2.2.2.2.2.1;simp only[]at G;have inst:=Ax.some U;have J0:= λn:Ax U=>Ax.cell G n
 go_wp2_with fail;refine AC kR kR ?_;repeat(go_big_quiet_step (fail))
 refine wpQuiet_nil ?_;rintro aO ⟨g,rfl⟩;have j:Ae (BC g.u r t d c n ⟨p,q,Z gf (top+1) c3⟩ (Z a k z)/\AB g.u B ⟨p,q,Z gf (top+1) c3⟩ C K F/\Ay g.u w #[.pointer M,.pointer M] 143/\Ah w w g.u):=⟨l.1.av g.h,l.2.1.grow g.h,l.2.2.1.av g.h,Ar l.2.2.2 lR g.h⟩
 clear J0 inst G l;go_upto_region 2 with fail
 generalize g.u=V at j⊢;clear g;have T:=j.1.at.2.2.2.2.2.2.2;have D:=j.2.1.dk;simp only[]at D;rw[H.1]at D;have A:=D.cellAt (top*4+0) oM;rw[BI BE 4 Ca F top 0 _ H.2.1 oM]at A;simp only[BE,lO,H.2.2,mL]at A;clear D;have I:=j.2.2.1.cell 0;have L:=j.2.2.1.cell 1;have aa:=j.2.2.1.frozen 0;have aq:=j.2.2.1.frozen 1;simp only[lQ,lO,lS]at I L;have m:=As V;have aG:=Au m T;have au:=Au m A;have aK:=Au m I;have aM:=Au m L;have s:=j.2.2.1.set 0 (.pointer (some ⟨a,b*9,M⟩));have W:=s.cell 1;have E:=s.set 1 (.pointer (some ⟨gf,top*4,M⟩));have q3:=E.cell 0;have q4:=E.cell 1;simp only[mO,mi,mh,lQ,lO,lS]at W q3 q4;have aI:(V.setCell w (.pointer (some ⟨a,b*9,M⟩))).drew.cell? ⟨w,1,M⟩=some (.pointer M):=W;have aJ:(V.setCell w (.pointer (some ⟨a,b*9,M⟩))).drew.frozen? ⟨w,1,M⟩=false:=s.frozen 1;have aH:V.drew.frozen? w=false:=aa;have ai:((V.setCell w (.pointer (some ⟨a,b*9,M⟩))).setCell ⟨w,1,M⟩ (.pointer (some ⟨gf,top*4,M⟩))).drew.cell? w=some (.pointer (some ⟨a,b*9,M⟩)):=q3;have aj:((V.setCell w (.pointer (some ⟨a,b*9,M⟩))).setCell ⟨w,1,M⟩ (.pointer (some ⟨gf,top*4,M⟩))).drew.cell? ⟨w,1,M⟩=some (.pointer (some ⟨gf,top*4,M⟩)):=q4;have HB:Ae (Ah w w ((V.drew.setCell w (.pointer (some ⟨a,b*9,M⟩))).setCell ⟨w,1,M⟩ (.pointer (some ⟨gf,top*4,M⟩)))):=((Ar j.2.2.2 lR m).setCell sP _).setCell sP _;clear T A I L aa aq m s E;go_upto_region 2 with fail
 go_region_law (fail);all_goals
  go_wp2_with fail;exact mM (v:=An #[.pointer (some ⟨a,b*9,M⟩),.pointer (some ⟨gf,top*4,M⟩)]) (by simp[results,results47,go_sem,ai,aj]) rfl ⟨rfl,HB⟩
end Go.Proofs.YtkgohaigebcgoaaGreatDoor
