import Derived.Test.YtmalfecapdmdbaaGreatHo8
import Derived.Deep.LoopGhost
import Derived.Test.YtmalfecapdmdbaaGreatHo6
namespace Go.Proofs.YtmalfecapdmdbaaGreat
open Go.ChangeShapes Go.WideShapes Go.ChangeAt Go.RowKit Go.Proofs.Tryz
set_option linter.unusedVariables false
open Option renaming some → K,none → M
open Go renaming Value → J,World → Y,TypeId → Aj,Calls → Ai
open Go.IntKind renaming i64 → Af
open Go.Value renaming int → Ag,slice → Z,agg → Am
open Go.RowKit renaming Below → Ah,Hid → Ae
open Go.World renaming setCell → Aa,ownsRow → Ab,alloc → Ac
open List renaming flatMap → Ad
open Go.Obj renaming cells → Ak
open Go.Ending renaming returned → Al
open Go.Proofs.Tryz renaming prog → Ap
set_option maxHeartbeats 8000000
set_option maxRecDepth 100000
variable {w u j:Y}{k base g B a n i x X cap cl G:Nat}{A:Array J}{V' f b c s d:J}{l:List (ML×J×J)}{L:List (J×List Int)}{cb:List Int}{t e:Aj}{O:List Nat}{xs:List J}{D:List (MB×J)}{I:Nat->Int}
theorem CI.grow{k:Y}{A B:List (J×List Int)}{V:J}{l l':List Int}(h:CI w base (A++(V,l)::B))(v:Ab k base 2 1 V' l' (Ad As l'))(t:V'.ownBlock=K g)(n:w.grownBy k V.ownBlock)(u:V.ownBlock=K g\/ ↑w<=g):CI k base (A++(V',l')::B):=by
 obtain⟨z,C,j⟩:=mq.1 h.sep;obtain⟨s,D⟩:=lg.1 C;have q:∀x:J×List Int,x∈A++(V,l)::B->IY x (V,l)->IY x (V',l'):= λx c d E p e=>by
  rw[t]at e;have e:=kH e;subst e;rcases u with m|m
  . exact d _ p m
  have:=((h.own x c).lt _ p).2;omega
 refine⟨λx c=> ?_,mq.2 ⟨z,lg.2 ⟨λy r=>(q y (by simp[r]) (s y r).symm).symm,D⟩, λa d b f=> ?_⟩⟩
 . rcases kO.1 c with c|c
   . exact Do (h.own x (kO.2 (.inl c))) n (λg i e=>j x c (V,l) sP g i e.symm)
   rcases kY.1 c with rfl|c
   . exact v
   exact Do (h.own x (kO.2 (.inr (lU _ c)))) n (λg i e=>s x c g e.symm i)
 rcases kY.1 f with rfl|f
 . exact q a (by simp[d]) (j a d (V,l) sP)
 exact j a d b (lU _ f)
theorem CI.iF{a:Y}(h:CI u B L)(b:Ah u u a):CI a B L:=⟨λr c=>Aw (h.own r c) b lR,h.sep⟩
theorem CI.join{f:Y}(h:CI u B L)(m:Ah u u f)(j:Ab f u 2 1 b cb (Ad As cb))(k:B<= ↑u):CI f B (L++[(b,cb)]):=by
 refine⟨λx d=> ?_,mq.2 ⟨h.sep,sP, λa l c i g n e=> ?_⟩⟩
 . rcases kO.1 d with d|d
   . exact Aw (h.own x d) m lR
   simp only[kY,lG,mS]at d;subst d;exact Ba j k
 simp only[kY,lG,mS]at i;subst i;have p:=((h.own a l).lt g n).2;have q:=(j.lt g e).1;omega
theorem CI.kh{f:Y}{cc:List Int}(h:CI u B L)(p:Ah u u f)(k:Ab f u 2 1 b cb (Ad As cb))(j:Ab f u 2 1 c cc (Ad As cc))(r:∀g,b.ownBlock=K g->c.ownBlock≠K g)(i:B<= ↑u):CI f B (L++[(b,cb),(c,cc)]):=by
 refine⟨λx d=> ?_,mq.2 ⟨h.sep,by simpa[IY]using r, λa n y l g q e=> ?_⟩⟩
 . rcases kO.1 d with d|d
   . exact Aw (h.own x d) p lR
   simp only[kY,lG,mS]at d;rcases d with rfl|rfl
   . exact Ba k i
   exact Ba j i
 simp only[kY,lG,mS]at l;have s:=((h.own a n).lt g q).2;rcases l with rfl|rfl
 . have m:=(k.lt g e).1;omega
 have m:=(j.lt g e).1;omega
theorem CI.other{b:Nat}{a:Array J}(h:CI w base L)(c:AC w b a t)(d:2≠t)(i:Nat)(x:J):CI (Aa w ⟨b,i,M⟩ x) base L:=h.set c d i x
theorem CI.iu{a:Y}{m:Nat}{v:J}{b:List J}(h:CI w base L)(c:w.grownBy a v.ownBlock)(f:Ab w B e k v m b)(d:2≠e):CI a base L:=⟨λx g=>BJ (h.own x g) c f d,h.sep⟩
def BD(x:ML×J×J):List J:=[x.1.head,x.2.1,x.2.2]
theorem Co(x:ML×J×J):(BD x).length=3:=rfl
def TP(w:Y)(x:ML×J×J):Prop:=Rd w 1 x.2.1 x.1.back (Ad As x.1.back)/\Rd w 1 x.2.2 x.1.a8 (Ad As x.1.a8)
def Mi(w:Y)(s:J)(b:List ML):Prop:=∃a:List (ML×J×J),a.map Prod.fst=b/\Rd w 3 s b (Ad BD a)/\∀y∈a,TP w y
theorem Mi.a7{f:Y}{e:List ML}(h:Mi w s e)(b:Ah B w f)(a: ↑w<=B):Mi f s e:=by obtain⟨j,g,i,c⟩:=h;exact⟨j,g,i.a7 b a, λy d=>⟨(c y d).1.a7 b a,(c y d).2.a7 b a⟩⟩
theorem Mi.nil(w:Y):Mi w sN []:=⟨[],rfl,⟨rfl,.inl ⟨rfl,_,_,rfl⟩⟩, λy a=>by cases a⟩
def EM(a:List (ML×J×J)):List (J×List Int):=a.flatMap λy=>[(y.2.1,y.1.back),(y.2.2,y.1.a8)]
def iv(f:Nat->Nat)(n:Nat):List J:=(List.range n).map λi=>Ag Af (f i:Int)
theorem JG(f:Nat->Nat)(n:Nat):(iv f n).length=n:=by simp[iv]
theorem M9(f:Nat->Nat)(n i:Nat)(h:i<n):(iv f n)[i]?=K ↑(f i:Int):=by simp[iv,h]
theorem Ui{f g:Nat->Nat}(h:∀j,j<n->g j=if j=i then x else f j):(iv f n).set i x=iv g n:=by
 apply mP;intro j;by_cases a:j<n
 . rw[M9 _ _ _ a,h j a];by_cases e:j=i
   . subst e;rw[mZ (by rw[JG];exact a),kZ rfl]
   rw[mr oM,M9 _ _ _ a,kP e]
 rw[kW (by simp[JG];omega),kW (by rw[JG];omega)]
theorem Sm(n:Nat):(madeCells (Ag Af 0).cells (n*1)).toList=iv (λ_=>0) n:=by
 rw[Jj n (λ_=>[]) []];simp[Bu,iv,List.flatten_replicate_singleton];apply mP;intro j;by_cases a:j<n
 . simp[a]
 rw[kW oT,kW oT]
def LD(O:List Nat)(k x:Nat):Nat:=if(O.reverse.take k).contains x then Dp O x else 0
theorem Nq(O:List Nat):LD O 0= λ_=>0:=by funext x;simp[LD]
theorem PQ(O:List Nat)(x:Nat)(h:x∈O):LD O O x=Dp O x:=by unfold LD;rw[k8 sP,kZ (by simpa using h)]
theorem Np(d:O.Nodup)(i:O.reverse[k]?=K x)(n:Nat):∀j,j<n->LD O (k+1) j=if j=x then k else LD O k j:= λj _=>by
 obtain⟨a,e⟩:=i6.1 i;have f:O.reverse.Nodup:=List.pairwise_reverse.2 (d.imp Ne.symm);have h:Dp O x=k:=by
  have g:x∈O:=by rw[<-mc,<-e];exact mN a
  have c:=IP g;obtain⟨l,b⟩:=i6.1 c;exact(List.getElem_inj f).1 (b.trans e.symm)
 unfold LD;rw[kU a,e];by_cases q:j=x
 . subst q;rw[kZ sP,kZ rfl,h]
 rw[kP q];have:(O.reverse.take k++[x]).contains j=(O.reverse.take k).contains j:=by simp[q]
 rw[this]
theorem VJ:(Tryz.prog.info? 3).map (λi=>(i.zero,i.size,i.bytes))=K (K (iZ 0),1,8):=kR
structure PC(w u:Y)(n X gp:Nat)(Vb Vo:J)(O:List Nat)(k:Nat):Prop where
 gK:AC u X #[iZ 0,iZ 0,Vb,Vo,sN,sN] 80
 place:Ab u w 3 1 (sG gp n n) n (iv (LD O k) n)
 gJ:Gh u w Vo (O.reverse.take k)
 e8:Ah w w u
 lt: ↑w<=X
theorem PC.a7{e:Y}{d:Nat}(h:PC w u n X d b c O k)(a:Ah u u e):PC w e n X d b c O k:=⟨h.gK.a7 a,Aw h.place a lR,h.gJ.a7 a,Ar h.e8 lR a,h.lt⟩
structure PD(w u:Y)(n X gp:Nat)(Vb Vo:J)(O:List Nat)(k:Nat):Prop where
 gK:AC u X #[iZ 0,iZ 0,Vb,Vo,sN,sN] 80
 place:Ab u w 3 1 (sG gp n n) n (iv (LD O (k+1)) n)
 gJ:Gh u w Vo (O.reverse.take k)
 e8:Ah w w u
 lt: ↑w<=X
theorem PD.a7{e:Y}{d:Nat}(h:PD w u n X d b c O k)(a:Ah u u e):PD w e n X d b c O k:=⟨h.gK.a7 a,Aw h.place a lR,h.gJ.a7 a,Ar h.e8 lR a,h.lt⟩
theorem FO{b:Nat}{a:Array J}(c:AC w b a t)(h:Ab w base e k s n xs)(d:e≠t):s.ownBlock≠K b:= λq=>BF h c d b q rfl
theorem PC.set(h:PC w u n X a b c O k)(d:O.Nodup)(f:O.reverse[k]?=K x):PD w (Aa u ⟨a,x,M⟩ k) n X a b c O k:=by refine⟨h.gK.other (λe=>FO h.gK h.place dC (by rw[e];rfl)) _,?_,BE h.gJ h.place dC _ _,h.e8.setCell (AD h.place).1 _,h.lt⟩;have:=(h.place.stored x k).1;rw[Ui (Np d f n)]at this;exact this
theorem PD.al{c:Nat}{a:J}(h:PD w u n X c b a O k):Ab u w 2 1 a (O.reverse.take k).length (nv (O.reverse.take k))/\(w:Nat)<=u.heap.size:=⟨h.gJ,h.e8.size⟩
theorem PD.gX{b:Y}(h:PD w u n X g d f O k)(s:O.reverse[k]?=K x)(l:Ab b w 2 1 V' ((O.reverse.take k).length+1) (nv (O.reverse.take k)++[iZ (x:Int)]))(j:u.grownBy b f.ownBlock):AC b X #[iZ 0,iZ 0,d,f,sN,sN] 80/\PC w (Aa b ⟨X,3,M⟩ V') n X g d V' O (k+1):=by
 have c:=h.gK.grown j h.gJ dC;have m:Ab b w 3 1 (sG g n n) n (iv (LD O (k+1)) n):=BJ h.place j h.gJ dC;have p:Ah w w b:=h.e8.grown j h.e8.size (λi q=>(h.gJ.lt i q).1);refine⟨c,?_,kN m (a:=⟨X,3,M⟩) (FO c m dC) _,?_,p.setCell h.lt _,h.lt⟩
 . have:=c.set 3 V';simpa using this
 obtain⟨r,e⟩:=i6.1 s;unfold Gh;rw[kU r,e,Fx,kE,kK];exact kN l (a:=⟨X,3,M⟩) (FO c l dC) _
theorem Ho(P:Program)(w:Y)(a:Addr)(m:Mode)(f:Fn)(x y:Array J):(store a (.func f x y) m).run P w=stored P w a (.func f x y) m:=run_store P w a _ m rfl
theorem Iu(g o c n:Nat)(E:Nat->List Nat)(sv:J)(T:List Nat)(B:J)(a:List Nat)(w:Y)(hn:n<=1024)(hE:∀b,b<n->∀x∈E b,x<n)(aq:∀b,(E b).length<=2048)(h:FW w g o n E)(hT:∀x∈T,x<n)(aF:T.length<=4096)(X:I5 w sv T)(hS:(B=Z M 0 0/\a=[])\/∃x F R:Nat,a=[x]/\x<n/\B=Z F 1 R/\w F=K ↑(x:Int)):
 Ai Ap 132 #[Z (K ⟨g,o,M⟩) n c,sv,B] w λe w'=>∃V S O,e=Al V/\Vs E a [] T S O/\Gh w' w V O/\Ah w w w':=by
 have H:=Av (d5 h (d5 hE (d5 aq (d5 hT X))));obtain⟨at_,ct,rfl⟩:=Rd.dk X;clear h hE aq hT X;have aI:= @run_makeMap Ap;have aH:∀(fn:Fn) (first cap:Array J) (w:Y),(Instr.makeFunc fn first cap).run Ap w=.ok (.func fn first cap) w:= λ_ _ _ _=>rfl
 go_enter func132,ntmps132;go_upto_region 3 with fail
 refine Ax (λu=>Ae (AC u w #[Z (K ⟨g,o,M⟩) n c] 22/\AC u ((w:Nat)+1) #[Z M 0 0] 46/\AW u ((w:Nat)+1+1) 0 (.map [])/\AC u ((w:Nat)+1+1+1) #[.map (K ((w:Nat)+1+1))] 154/\Ah w w u)) ?_ ?_
 . have b1:=Aq w (Ak #[Z (K ⟨g,o,M⟩) n c] 22);have k1:=AC.new w #[Z (K ⟨g,o,M⟩) n c] 22;have z1:(Ac w (Ak #[Z (K ⟨g,o,M⟩) n c] 22)).heap.size= ↑w+1:=sP
   generalize Ac w (Ak #[Z (K ⟨g,o,M⟩) n c] 22)=v at b1 k1 z1⊢;have Q:=Aq v (Ak #[Z M 0 0] 46);have k2:=AC.new v #[Z M 0 0] 46;have z2:(Ac v (Ak #[Z M 0 0] 46)).heap.size= ↑w+1+1:=by simp[z1]
   rw[z1]at k2;generalize Ac v (Ak #[Z M 0 0] 46)=r at Q k2 z2⊢;have z:=Aq r (.map #[] 0);have k3:AW (Ac r (.map #[] 0)) r 0 (.map []):=World.ownsMap_made _ _ _ _;have z3:(Ac r (.map #[] 0)).heap.size= ↑w+1+1+1:=by simp[z2]
   rw[z2]at k3;generalize Ac r (.map #[] 0)=W3 at z k3 z3⊢;have A:=Aq W3 (Ak #[.map (K ((w:Nat)+1+1))] 154);have k4:=AC.new W3 #[.map (K ((w:Nat)+1+1))] 154;rw[z3]at k4;exact⟨((k1.a7 Q).a7 z).a7 A,(k2.a7 z).a7 A,k3.a7 A,k4,Ar (Ar (Ar b1 lR Q) lR z) lR A⟩
 intro q d;have s0:q ⟨(w:Nat)+1+1+1,0,M⟩=K (.map (K ((w:Nat)+1+1))):=d.2.2.2.1.cell 0;have ae:Ae (Ai Ap 101 #[.map (K ((w:Nat)+1+1)),B] q λe I=>e=Al (.tuple #[])/\(∃C D,AW I ((w:Nat)+1+1) C D/\C+A8 a n<=n+1/\∀x:Nat,Go.Maps.has D (.int Af (x:Int))=a.contains x)/\q.grownBy I (K ((w:Nat)+1+1))):=by
  rcases hS with⟨rfl,rfl⟩|⟨x,F,R,rfl,hx,rfl,hc⟩
  . refine(TV _ q).mono ?_;rintro e I ⟨rfl,rfl⟩;exact⟨rfl,⟨0,.map [],d.2.2.1,by rw[Fz];omega, λx=>rfl⟩,⟨rfl,rfl,rfl,Nat.le_refl _, λ_ _ _=>rfl⟩⟩
  refine(D9 _ 0 F R _ (x:Int) q (Ee oM) oM (Au d.2.2.2.2 hc) (by have:=hC hc;simp only[]at this;omega) d.2.2.1).mono ?_;rintro e I ⟨rfl,U,W⟩;refine⟨rfl,⟨_,_,U,?_, λy=> ?_⟩,W⟩
  . have:=Ev [] n x hx sP;rw[Fz]at this;omega
  rw[EW _ (mv d.2.2.1)];by_cases e:y=x
  . subst e;simp
  have:¬(y:Int)=(x:Int):=oM;simp[e,this];rfl
 clear hS;go_wp2_with fail;refine ae.mono ?_;rintro e f ⟨rfl,ao,t⟩;have p:=Av (d5 (d.1.gb t oT) (d5 (d.2.1.gb t sP) (d5 ao (d5 (d.2.2.2.1.gb t sP) (d.2.2.2.2.grown t d.2.2.2.2.size (λj hj=>by cases hj;omega))))));clear ao t ae d s0;have aJ:= @Ho Ap;have kF:=AC.new f #[.nilFunc] 235;have c9:(Ac f (Ak #[.nilFunc] 235)) f=K .nilFunc:=kF.cell 0;have f9:=kF.frozen 0;have ah:Ae (PO w (Ac f (Ak #[.func (.func 157) #[] #[.pointer (K ⟨(w:Nat)+1+1+1,0,M⟩),.pointer w,.pointer f,.pointer (K ⟨(w:Nat)+1,0,M⟩)]] 235)) n ((w:Nat)+1+1) ((w:Nat)+1+1+1) w f ((w:Nat)+1) (Z (K ⟨g,o,M⟩) n c) (Z M 0 0) a []):=by have s:=Aq f (Ak #[WB ((w:Nat)+1+1+1) w f ((w:Nat)+1)] 235);obtain⟨C,D,U,W,h3⟩:=p.2.2.1;refine⟨⟨C,D,U.a7 s,W,h3⟩,p.2.2.2.1.a7 s,p.1.a7 s,AC.new f _ _,p.2.1.a7 s,lQ _ _ _ _,Ar p.2.2.2.2 lR s,⟨oM,oM⟩,?_⟩;have:=Hp n (S:=[]) (S':=a) (λx hx=>by cases hx);rw[Fz]at this;simpa using this
 go_upto_region 6 with fail
 refine Ax (λu=>Ae (PO w u n ((w:Nat)+1+1) ((w:Nat)+1+1+1) w f ((w:Nat)+1) (Z (K ⟨g,o,M⟩) n c) (Z M 0 0) a [])) ah ?_;intro U2 L;clear ah kF c9 f9 p;obtain⟨m,aj⟩:∃m,m=f.heap.size:=⟨_,rfl⟩;rw[<-aj]at L⊢;clear aj;go_wp2;go_loopw [19] (λi wr=>∃(k:Nat) (V:J) (S O:List Nat),k<= ↑T/\i=.int Af k/\Ae (Vs E a [] (T.take k) S O/\PO w wr n ((w:Nat)+1+1) ((w:Nat)+1+1+1) w m ((w:Nat)+1) (Z (K ⟨g,o,M⟩) n c) V S O)) (λi _=> ↑T-(intOf i).toNat)
 case atStart=>exact⟨0,_,a,[],oM,rfl,by simpa using Vs.nil a [],L⟩
 clear L;obtain⟨k,V,S,O,hk,rfl,l⟩:=hrel;by_cases aA:k< ↑T
 . have aG:(k:Int)<(T:Int):=oM;obtain⟨y,G⟩:∃y,T[k]?=K y:=⟨_,an aA⟩;have aE:y<n:=H.2.2.2.1 y (i7 G);obtain⟨ga,oa,rfl,_,y0⟩:=H.2.2.2.2.at_ G;(replace y0:=Au l.2.e8 y0);have f0:wr m=K (.func (.func 157) #[] #[.pointer (K ⟨(w:Nat)+1+1+1,0,M⟩),.pointer w,.pointer m,.pointer (K ⟨(w:Nat)+1,0,M⟩)]):=l.2.wb.cell 0;(have HT:Ae (T.take (k+1)=T.take k++[y]):=by obtain⟨hl,rfl⟩:=i6.1 G;exact kU hl);clear G;go_wp2_with fail;refine(UV w g o c n ((w:Nat)+1+1) ((w:Nat)+1+1+1) w m ((w:Nat)+1) E hn H.2.1 H.2.2.1 H.1 _ S O y V wr rfl aE l.2 (λ_=>l.2.len)).mono ?_;rintro e u3 ⟨rfl,V3,P,N,au,am,aw⟩;have HN:Ae (Vs E a [] (T.take (k+1)) P N/\PO w u3 n ((w:Nat)+1+1) ((w:Nat)+1+1+1) w m ((w:Nat)+1) (Z (K ⟨g,o,M⟩) n c) V3 P N):=by refine⟨?_,am⟩;rw[HT];exact l.1.gX au
   clear au am aw y0 f0;go_wp2;go_roundw;(case rel=>exact⟨k+1,V3,P,N,oM,by go_num,HN⟩);exact oI
 obtain rfl:k=T.length:=oM;have l0:wr ⟨(w:Nat)+1,0,M⟩=K V:=l.2.lb.cell 0;have HF:Ae (Vs E a [] T S O):=by have:=l.1;rw[k8 lR]at this;exact this
 go_wp2;go_ret;exact⟨V,S,O,rfl,HF,l.2.list,l.2.e8⟩
structure PF(w6 u:Y)(X:Nat)(Vb Vo Vi:J)(Is:List Int)(Vl:J)(ys:List (ML×J×J)):Prop where
 gK:AC u X #[iZ 0,iZ 0,Vb,Vo,Vi,Vl] 80
 gV:CI u w6 ((Vi,Is)::EM ys)
 iE:Ab u w6 85 3 Vl ys (Ad BD ys)
 fx:∀k,k< ↑w6->k≠X->u.heap[k]?=w6.heap[k]?
 size:(w6:Nat)<= ↑u
 e8:Ah X w6 u
 lt:X< ↑w6
theorem PF.a7{i:Y}{e:J}{b:List Int}(h:PF j u X c f d b e l)(a:Ah u u i):PF j i X c f d b e l:=⟨h.gK.a7 a,h.gV.iF a,Aw h.iE a lR, λk g m=>by rw[a.block k (lq g h.size)];exact h.fx k g m,kV h.size a.size,h.e8.trans (a.mono (by have:=h.lt;have:=h.size;omega)),h.lt⟩
theorem PF.cell{c:Y}{e i g:J}{d:List Int}{k:List (ML×J×J)}(h:PF c u X e i f d g k){a:Addr}{x:J}(b:c a=K x)(j:a.block≠X):u a=K x:=by have:=h.fx a.block (hC b) j;unfold World.cell? at*;rw[this];exact b
theorem PF.gQ{c:Y}{q r m:J}{b:List Int}{z:Int}(h:PF j u X q r f b m l)(y:Ab c j 2 1 (sG g (b.length+1) cap) (b.length+1) (Ad As b++[iZ z]))(d:u.grownBy c f.ownBlock)(w:f.ownBlock=K g\/g= ↑u):AC c X #[iZ 0,iZ 0,q,r,f,m] 80/\PF j (Aa c ⟨X,4,M⟩ (sG g (b.length+1) cap)) X q r (sG g (b.length+1) cap) (b++[z]) m l:=by
 have p:=h.gV.own (f,b) (lV ..);have n:=h.gK.grown d p dC;have v:Ab c j 85 3 m l (Ad BD l):=BJ h.iE d p dC;have B:CI c j ((sG g (b.length+1) cap,b++[z])::EM l):=by have:=CI.grow (A:=[]) (l':=b++[z]) (V':=sG g (b.length+1) cap) (g:=g) h.gV (by rw[kE,kK,lL];exact y) rfl d (w.imp id λe=>oM);simpa using this
 refine⟨n,?_,B.other n dC 4 _,kN v (a:=⟨X,4,M⟩) (FO n v dC) _, λk s t=> ?_,?_,?_,h.lt⟩
 . have:=n.set 4 (sG g (b.length+1) cap);simpa using this
 . rw[lY c _ k _ t,d.block k (lq s h.size) (λe=>by have:=(p.lt k e.symm).1;omega)];exact h.fx k s t
 . rw[lr];exact kV h.size d.size
 exact(h.e8.grown d (by have:=h.lt;have:=h.size;omega) (λi x=>by have:=(p.lt i x).1;have:=h.lt;omega)).setCell lR _
theorem PF.loop{r p:Y}{w y l x:J}{s:List Int}{c:List (ML×J×J)}{m:ML}(h:PF r u X w y l s x c)(z:Ah u u p)(C:Ab p u 2 1 d m.back (Ad As m.back))(D:Ab p u 2 1 f m.a8 (Ad As m.a8))(t:∀q,d.ownBlock=K q->f.ownBlock≠K q)(B:Ab j r 85 3 (sG g (c.length+1) cap) (c.length+1) (Ad BD c++[iZ m.head,d,f]))(n:p.grownBy j x.ownBlock):AC j X #[iZ 0,iZ 0,w,y,l,x] 80/\PF r (Aa j ⟨X,5,M⟩ (sG g (c.length+1) cap)) X w y l s (sG g (c.length+1) cap) (c++[(m,d,f)]):=by
 have b:=h.a7 z;have v:=b.gK.grown n b.iE dC;have G:CI p r ((l,s)::EM (c++[(m,d,f)])):=by have:=h.gV.kh z C D t h.size;simpa[EM]using this
 have F:CI j r ((l,s)::EM (c++[(m,d,f)])):=G.iu n b.iE dC;refine⟨v,?_,F.other v dC 5 _,?_, λk A t=> ?_,?_,?_,h.lt⟩
 . have:=v.set 5 (sG g (c.length+1) cap);simpa using this
 . rw[kE,kK,lL];exact kN B (a:=⟨X,5,M⟩) (FO v B dC) _
 . rw[lY j _ k _ t,n.block k (lq A b.size) (λe=>by have:=(b.iE.lt k e.symm).1;omega)];exact b.fx k A t
 . rw[lr];exact kV b.size n.size
 exact(b.e8.grown n (by have:=h.lt;have:=b.size;omega) (λi E=>by have:=(b.iE.lt i E).1;have:=h.lt;omega)).setCell lR _
theorem DO(E:Nat->List Nat)(D L:Nat->Nat->Bool)(n b:Nat):Bt E D L n (b+1)=Bt E D L n b++(if AH E D n b=[]then[]else[⟨(b:Int),ints (AH E D n b),ints ((List.range n).filter (L b))⟩]):=by
 unfold Bt;rw[mw,List.filterMap_append];by_cases h:AH E D n b=[]
 . simp[h]
 simp[h]
def Tp(xs:List MI)(m:MB):MB:=⟨m.gH,m.last,AY xs (xs.getD m.last.toNat ⟨0,0,0,0⟩) m.last.toNat⟩
def Kx(xs:List MI):List MB:=(Bq xs xs).map (Tp xs)
theorem Hj(xs:List MI):(Kx xs).length=(CS xs xs).length:=by unfold Kx;rw[lC,BG]
theorem O8(L:List Nat)(n b a q:Nat)(c:L[b]?=K a)(d:(L++[n])[b+1]?=K q):(build L n)[b]?=K ⟨(a:Int),(q:Int)-1,[]⟩:=by
 unfold build;rw[nH,c];have e:(L.tail++[n])[b]?=K q:=by
  cases L with
  |nil=>simp at c
  |cons y r=>simpa using d
 rw[e]
def z3:List J:=[iZ 0,iZ 0,sN]
structure IW(w u:Y)(xs:List MI)(gl cl bl j:Nat)(D:List (MB×J)):Prop where
 row:Ab u w 126 3 (sG bl (CS xs xs).length (CS xs xs).length) (CS xs xs).length ((List.replicate j z3).flatten++Ad BN D)
 gV:CI u w ((sG gl (CS xs xs).length cl,(CS xs xs).map Int.ofNat)::Dx D)
 done:D.map Prod.fst=(Kx xs).drop j
 e8:Ah w w u
theorem IW.lead{xs:List MI}{b j:Nat}(h:IW w u xs a cl b j D):Ab u w 2 1 (sG a (CS xs xs).length cl) (CS xs xs).length (Ad As ((CS xs xs).map Int.ofNat)):=by have:=h.gV.own _ (lV);simpa using this
theorem CI.a7{a:Y}(h:CI u B L)(b:Ah u u a):CI a B L:=⟨λr c=>Aw (h.own r c) b lR,h.sep⟩
theorem CI.add{c:Y}{y:J×List Int}(h:CI u B (y::L))(f:Ah u u c)(i:Ab c u 2 1 b cb (Ad As cb))(j:B<= ↑u):CI c B (y::(b,cb)::L):=by
 have d:∀r∈y::L,IY (b,cb) r:=by intro r a g k e;have n:=i.lt g k;have p:=(h.own r a).lt g e;omega
 obtain⟨l,m⟩:=lg.1 h.sep;refine⟨?_,lg.2 ⟨?_,lg.2 ⟨λr a=>d r (by simp[a]),m⟩⟩⟩
 . intro r a;simp only[kY]at a;rcases a with rfl|rfl|a
   . exact Aw (h.own _ sP) f lR
   . exact Ba i j
   exact Aw (h.own r (by simp[a])) f lR
 intro r a;simp only[kY]at a;rcases a with rfl|a
 . exact(d y sP).symm
 exact l r a
theorem CI.jF{c:Nat}(h:CI w base L)(b:Ab w a 126 k (sG g n c) n xs)(i:Nat)(x:J):CI (Aa w ⟨g,i,M⟩ x) base L:=⟨λy d=>BE (h.own y d) b dC i x,h.sep⟩
theorem V4(A R:List J)(a b c c0 c1 c2:J)(i:Nat)(h: ↑A=i):(((A++([a,b,c]++R)).set i c0).set (i+1) c1).set (i+2) c2=A++([c0,c1,c2]++R):=by subst h;simp[List.set_append_right]
theorem Qo(b:Nat)(R:List J):(List.replicate (b+1) z3).flatten++R=(List.replicate b z3).flatten++(z3++R):=by rw[List.replicate_succ'];simp
theorem RY(b:Nat):(List.replicate b z3).flatten.length=b*3:=by rw[List.length_flatten];simp[z3]
theorem IW.next{wr:Y}{xs:List MI}{c b q e:Nat}{x:MI}{d:Option Addr}{f:Nat}(h:IW w wr xs k cl c (b+1) D)(g:Ah wr wr u)(A:Ab u wr 2 1 (Z d (AY xs x e).length f) (AY xs x e).length (Ad As (AY xs x e)))(l:(CS xs xs)[b]?=K a)(z:(CS xs xs++[xs.length])[b+1]?=K q)(t:(q:Int)-1=(e:Int))(B:xs[e]?=K x):
 IW w (Aa (Aa (Aa u ⟨c,b*3,M⟩ a) ⟨c,b*3+1,M⟩ e) ⟨c,b*3+2,M⟩ (Z d (AY xs x e).length f)) xs k cl c b ((⟨(a:Int),(e:Int),AY xs x e⟩,Z d (AY xs x e).length f)::D):=by
 have j:=Aw h.row g lR;have m:=(j.stored (b*3) a).1;have n:=(m.stored (b*3+1) e).1;have p:=(n.stored (b*3+2) (Z d (AY xs x e).length f)).1;rw[Qo,show z3++Ad BN D=[Ag Af 0,iZ 0,sN]++Ad BN D from rfl,V4 _ _ _ _ _ _ _ _ _ (RY b)]at p;have i:=(AD j).1;have y:=O8 _ _ _ _ _ l z;refine⟨?_,?_,?_,(((Ar h.e8 lR g).setCell i _).setCell i _).setCell i _⟩
 . rw[lD];exact p
 . have f0:=CI.add h.gV g A h.e8.size;exact((f0.jF j _ _).jF m _ _).jF n _ _
 have v:b<(Kx xs).length:=by rw[Hj];exact(i6.1 l).1
 rw[mX,h.done,mD v];congr 1
 have r:(Kx xs)[b]?=K (Tp xs ⟨(a:Int),(q:Int)-1,[]⟩):=by unfold Kx;rw[lE,Cp,y];rfl
 have s:=(i6.1 r).2;rw[s];unfold Tp;rw[t,kA,kL,B];rfl
def zv(I:Nat->Int)(n:Nat):List J:=(List.range n).map λi=>Ag Af (I i)
theorem Ib(I:Nat->Int)(n:Nat):(zv I n).length=n:=by simp[zv]
theorem QH(I:Nat->Int)(n i:Nat)(h:i<n):(zv I n)[i]?=K ↑(I i):=by simp[zv,h]
theorem XC{b:Nat->Int}{x:Int}(h:∀j,b j=if j=i then x else I j):(zv I n).set i x=zv b n:=by
 apply mP;intro j;by_cases a:j<n
 . rw[QH _ _ _ a,h j];by_cases e:j=i
   . subst e;rw[mZ (by rw[Ib];exact a),kZ rfl]
   rw[mr oM,QH _ _ _ a,kP e]
 rw[kW (by simp[Ib];omega),kW (by rw[Ib];omega)]
theorem XA(n:Nat):List.replicate n (Ag Af (-1))=zv (λ_=> -1) n:=by
 apply mP;intro j;by_cases a:j<n
 . rw[QH _ _ _ a];simp[a]
 rw[kW oT,kW (by rw[Ib];omega)]
theorem Wg(I:Nat->Int)(n:Nat):zv I n=Ad As ((List.range n).map I):=by
 unfold zv;rw[List.flatMap_map];induction List.range n with
 |nil=>rfl
 |cons x r a=>simp[As,a]
structure DW(w u:Y)(G n:Nat)(A:Array J)(gi:Nat)(I:Nat->Int):Prop where
 gK:∃x0 x1 x2 x3,A=#[x0,x1,x2,x3]/\AC u G #[x0,x1,x2,x3,Z gi n n] 191
 row:Ab u w 2 1 (Z gi n n) n (zv I n)
 fx:∀k,k< ↑w->k≠G->u.heap[k]?=w.heap[k]?
 e8:Ah G w u
 size:(w:Nat)<= ↑u
 lt:G< ↑w
theorem DW.a7{d:Y}{b:Nat}(h:DW w u G n A b I)(a:Ah u u d):DW w d G n A b I:=by obtain⟨g,i,j,l,e,k⟩:=h.gK;exact⟨⟨g,i,j,l,e,k.a7 a⟩,Aw h.row a lR, λk c f=>by rw[a.block k (lq c h.size)];exact h.fx k c f,h.e8.trans (a.mono (by have:=h.lt;have:=h.size;omega)),kV h.size a.size,h.lt⟩
theorem DW.cell{c:Nat}(h:DW w u G n A c I){a:Addr}{x:J}(b:w a=K x)(d:a.block≠G):u a=K x:=by have:=h.fx a.block (hC b) d;unfold World.cell? at*;rw[this];exact b
theorem DW.set{c:Nat->Int}(h:DW w u G n A a I)(b:Nat)(x:Int)(d:∀j,c j=if j=b then x else I j):DW w (Aa u ⟨a,b,M⟩ x) G n A a c:=by
 obtain⟨i,l,m,p,e,k⟩:=h.gK;have q:=(AD h.row).1;have r:=h.lt;refine⟨⟨i,l,m,p,e,k.other oS _⟩,?_, λk f g=> ?_,h.e8.setCell oS _,by rw[lr];exact h.size,h.lt⟩
 . have:=(h.row.stored b x).1;rw[XC d]at this;exact this
 rw[lY u _ k _ oS];exact h.fx k f g
structure JZ(E:Nat->List Nat)(n:Nat)(pl:Nat->Nat)(k j:Nat)(I:Nat->Int):Prop where
 iy:IZ E n pl I
 jV:Ml E n pl I k j
 kn:∀x,x<n->pl x<j->Kn I x
 all:k=0\/∀x,x<n->Kn I x
 z:I 0=-1
theorem JZ.step{E:Nat->List Nat}{i:Nat->Nat}{j b:Nat}{a:Nat->Int}{z:Int}(c:DJ E n i)(h:JZ E n i k j I)(d:b<n)(f:b≠0)(F:i b=j)(D:Bf n I (Bs E n b) z)(l:∀y,a y=if y=b then z else I y):JZ E n i k (j+1) a:=by
 subst F;have r:=Hb E n b;obtain⟨m,C,t,u,v,w⟩:=JD c h.iy d f r h.kn D;have A:∀y,y≠b->I y=a y:= λy G=>by rw[l y,kP G]
 have p:a b=(m:Int):=by rw[l b,kZ rfl,C]
 obtain⟨B,s,H,L⟩:=h.iy.set c d f r h.kn t u v w A p;refine⟨B,h.jV.set c h.iy d f r h.kn h.all t u v w A p, λx g N=> ?_,h.all.imp id λq x g=>s x (q x g),?_⟩
 . by_cases e:x=b
   . subst e;exact .inr (by rw[p];omega)
   refine s x (h.kn x g ?_);have:=c.inj x b g d;omega
 rw[l 0,kP (Ne.symm f)];exact h.z
structure OO(E:Nat->List Nat)(n:Nat)(pl:Nat->Nat)(I:Nat->Int):Prop where
 iy:IZ E n pl I
 all:∀x,x<n->Kn I x
 iV:∀d x,x<n->(Ef I d x↔CZ E d x)
 z:I 0=-1
theorem VG(D:DataW Unit)(z y:Int):Go.Maps.has (D.del (.int Af z)) (.int Af y)=(Go.Maps.has D (.int Af y)&& !decide (y=z)):=by
 by_cases h:y=z
 . subst h;rw[Go.Maps.has_del_same];simp
 rw[Go.Maps.has_del_other (λe=>h (by cases e;rfl))];simp[h]
theorem Um(G n gN cN I cO:Nat)(R:List Nat)(w:Y)(hn:n<=1024)(N:∀x∈R,x<n)(au:R.length<=1024)(A:w.cell? G=K (Z gN n cN))(m:w.cell? ⟨G,2,M⟩=K (Z I R cO))(L:∀k x:Nat,R[k]?=K x->w.cell? ⟨I,k,M⟩=K (.int Af (x:Int))):
 Ai Ap 106 #[.pointer G] w λe w'=>∃(g cap:Nat) (zs:List Int),e=Al (Z g zs cap)/\Ab w' w 2 1 (Z g zs cap) zs (Ad As zs)/\zs.Pairwise (· < ·)/\(∀z,z∈zs↔∃x:Nat,z=(x:Int)/\x<n/\x∉R)/\Ah w w w':=by
 have H:=Av (d5 A (d5 m (d5 L N)));have aE:= @run_makeMap Ap;have v:=Aq w (.map #[] 0);have c0:=Au v A;have u:Ae (AW (Ac w (.map #[] 0)) w 0 (.map [])/\Ah w w (Ac w (.map #[] 0))):=⟨World.ownsMap_made _ _ _ _,v⟩
 clear A m L N v;go_enter func106,ntmps106;go_wp2;go_loopw [13] (λi wr=>∃k:Nat,k<=n/\i=.int Af k/\Ae (∃b D,b<=k/\AW wr w b D/\(∀z:Int,Go.Maps.has D (.int Af z)=decide (0<=z/\z<(k:Int)))/\Ah w w wr)) (λi _=>n-(intOf i).toNat)
 case atStart=>exact⟨0,oM,rfl,0,.map [],oM,u.1, λz=>by
  have:¬(0<=z/\z<((0:Nat):Int)):=oM
  simp only[this,decide_false];rfl,u.2⟩
 case round=>
  clear u c0;obtain⟨k,hk,rfl,l⟩:=hrel;obtain⟨b,D,aw,f,d,c⟩:=l.o;have a:=Av (d5 f (d5 d c));clear f d c l;by_cases aA:k<n
  . have am:(k:Int)<(n:Int):=oM;have h:Ae ((Ac wr (Ak #[k] 2)) wr=K ↑k/\AW (Ac wr (Ak #[k] 2)) w b D/\¬(wr:Nat)= ↑w/\Ah w w (Ac wr (Ak #[k] 2))):=⟨(AC.new wr #[k] 2).cell 0,a.1.a7 (Aq _ _),by have:=m7 a.1;omega,Ar a.2.2 lR (Aq _ _)⟩
    go_wp2_with fail;refine(D9 w b wr 1 D (k:Int) _ (Ee oM) oM h.1 h.2.2.1 h.2.1).mono ?_;rintro e W ⟨rfl,V,E⟩;have t:Ae (∃b D,b<=k+1/\AW W w b D/\(∀z:Int,Go.Maps.has D (.int Af z)=decide (0<=z/\z<((k+1:Nat):Int)))/\Ah w w W):=by refine⟨_,_,oM,V, λz=> ?_,h.2.2.2.grown E h.2.2.2.size (λj r=>by cases r;exact Nat.le_refl _)⟩;rw[EW D (mv a.1),a.2.1 z,nO];simp;omega
    clear V E;go_wp2;go_roundw;(case rel=>exact⟨k+1,oM,by go_num,t⟩);exact oI
  have ae:k=n:=oM;have am:¬(k:Int)<(n:Int):=oM;rw[ae]at a;have c2:=Au a.2.2 H.2.1;go_wp2;go_loopw [26] (λi wr=>∃j:Nat,j<= ↑R/\i=.int Af j/\Ae (∃D,AW wr w b D/\(∀z:Int,Go.Maps.has D (.int Af z)=(decide (0<=z/\z<(n:Int))&& !(ints (R.take j)).contains z))/\Ah w w wr)) (λi _=> ↑R-(intOf i).toNat)
  case atStart=>exact⟨0,oM,rfl,D,a.1, λz=>by rw[a.2.1 z];simp[ints],a.2.2⟩
  clear a c2;obtain⟨j,r,rfl,l⟩:=hrel;obtain⟨D,f,d,c⟩:=l.o;clear l;by_cases ah:j< ↑R
  . have aj:(j:Int)<(R:Int):=oM;obtain⟨x,s⟩:∃x,R[j]?=K x:=⟨_,an ah⟩;have aF:x<n:=H.2.2.2 x (i7 s);have o0:=Au c (H.2.2.1 j x s);(have HT:Ae (R.take (j+1)=R.take j++[x]):=by obtain⟨hl,rfl⟩:=i6.1 s;exact kU hl);have a:Ae ((∀z:Int,Go.Maps.has D (.int Af z)=(decide (0<=z/\z<(n:Int))&& !(ints (R.take j)).contains z))/\Ah w w wr):=⟨d,c⟩
    have P:wr.ownsMap Ap 2 (unitElem (H:=Unit)) w b D:=f;have ao:=Ee (x:=x) oM;clear s d c f;go_wp2_with (at_delete;refine wpList_delete_own _ rfl _ _ 154 2 rfl 207 EL underlying154 _ w b D rfl P _ _ rfl (nC underlying2 ao) ?_;intro w1 Q T);have t:Ae (∃D,AW w1 w b D/\(∀z:Int,Go.Maps.has D (.int Af z)=(decide (0<=z/\z<(n:Int))&& !(ints (R.take (j+1))).contains z))/\Ah w w w1):=by refine⟨_,Q, λz=> ?_,a.2.grown T.grown a.2.size (λj r=>by cases r;exact Nat.le_refl _)⟩;rw[VG,a.1 z,HT];unfold ints;rw[mF,Bool.and_assoc];(congr 1);rw[nO];simp
    clear Q T o0 P;go_roundw;(case rel=>exact⟨j+1,oM,by go_num,t⟩);exact oI
  have aq:j=R.length:=oM;have aj:¬(j:Int)<(R:Int):=oM;have a:Ae ((∀z:Int,Go.Maps.has D (.int Af z)=(decide (0<=z/\z<(n:Int))&& !(ints R).contains z))/\Ah w w wr/\AW wr w b D):=by rw[k8 oM]at d;exact⟨d,c,f⟩
  clear d c f;go_wp2_with fail;refine(IU w b D _ oM a.2.2).mono ?_;rintro e X ⟨F,C,zs,rfl,U,S,O,B⟩;have p:Ae (Ab X w 2 1 (Z F zs C) zs (Ad As zs)/\zs.Pairwise (· < ·)/\(∀z,z∈zs↔∃x:Nat,z=(x:Int)/\x<n/\x∉R)/\Ah w w X):=by
   refine⟨Ba U a.2.1.size,S, λz=> ?_,Ar a.2.1 lR B⟩;rw[O,a.1 z];simp only[mR,mB,Bool.not_eq_true',List.contains_eq_mem,nR];unfold ints;constructor
   . rintro⟨_,⟨h1,m⟩,h3⟩;refine⟨z.toNat,oM,oM, λq=>h3 (lA.2 ⟨z.toNat,q,oM⟩)⟩
   rintro⟨x,rfl,h1,m⟩;refine⟨Ee oM,⟨oM,oM⟩, λq=>m ?_⟩;obtain⟨y,hy,e⟩:=lA.1 q;have:y=x:=oM;rw[<-this];exact hy
  clear U S O B;go_wp2;go_ret;exact⟨F,C,zs,rfl,p.1,p.2.1,p.2.2.1,p.2.2.2⟩
theorem Ep(s:J)(xs:List Int)(v:Int)(w:Y)(A:xs.length<=1048576)(h:Rd w 1 s xs (Ad As xs)):
 Ai Ap 68 #[s,v] w λe C=>AJ e (v∈xs)/\C=w:=by
 have d:=Av h;obtain⟨D,c1,rfl⟩:=h.dk;clear h;generalize q:xs.length=n at A d⊢;have f:=Av q;clear q;go_enter func68,ntmps68;go_wp2;go_loopw [5] (λi wr=>∃k:Nat,k<=n/\i=Ag Af k/\Ae (∀j,j<k->¬xs[j]?=K v)/\wr=w) (λi _=>n-(intOf i).toNat)
 case atStart=>exact⟨0,oM,rfl, λj a=>oM,rfl⟩
 obtain⟨k,F,rfl,l,rfl⟩:=hrel;by_cases y:k<n
 . obtain⟨x,b⟩:∃x,xs[k]?=K x:=⟨_,an (by rw[f];exact y)⟩;rcases d.2 with⟨E,_⟩|⟨g,o,c,p,r⟩
   . omega
   simp only[i8,lB]at p;obtain⟨rfl,rfl⟩:=p;have B:=Rd.elem AA r k x b 0 _ rfl;rw[lN,kJ]at B;have m:=Av b;clear r b;by_cases t:x=v
   . subst t;go_wp2;go_ret;exact⟨.gY (i7 m),rfl⟩
   go_wp2;go_roundw;case rel=>
    refine⟨k+1,oM,by go_num, λj a=> ?_,trivial⟩;by_cases e:j=k
    . subst e;rw[m];exact λe=>t (kH e)
    exact l.o j oM
   case measure=>exact oI
 have u:k=n:=oM;subst u;go_wp2;go_ret;refine⟨.no λz=> ?_,rfl⟩;obtain⟨j,a⟩:=lH z;exact l.o j (by have:=(i6.1 a).1;rw[f]at this;exact this) a
def WE(ts:List MT)(a b n:Int):Prop:=(n=-1/\Ce ts a b=M)\/∃(k:Nat) (c:MT),n=(k:Int)/\ts[k]?=K c/\Ce ts a b=K c
theorem Lv(v:VP)(p:MP)(g l:Int)(w:Y)(R:p.small)(h:Da w v p):
 Ai Ap 67 #[Am #[v.r,v.k,v.f,v.t],g,l] w λe X=>(∃n,e=Al (Ag Af n)/\WE p.eD g l n)/\Ah w w X:=by
 obtain⟨E,D,C,W⟩:=v;have N:=Av h.eD;have V:=R.eD;obtain⟨y,c1,z⟩:∃a c,W=Z a p.eD c:=h.eD.dk;subst z;clear h R;have d:Ae (Ah w w (Ac w (Ak #[E,D,C,Z y p.eD c1] 36))/\CX (Ac w (Ak #[E,D,C,Z y p.eD c1] 36)) w E D C (Z y p.eD c1)):=⟨Aq _ _,CX.new _ _ _ _ _ _⟩
 generalize Q:p.eD.length=n at V N d⊢;have O:=Av Q;clear Q;go_enter func67,ntmps67;go_wp2;go_loopw [7] (λi wr=>∃k:Nat,k<=n/\i=Ag Af k/\Ae (∀j c,j<k->p.eD[j]?=K c->¬(c.func=g/\c.head=l))/\Ae (Ah w w wr/\CX wr w E D C (Z y n c1))) (λi _=>n-(intOf i).toNat)
 case atStart=>exact⟨0,oM,rfl, λj c m=>oM,d⟩
 clear d;obtain⟨k,hk,rfl,F,d⟩:=hrel;obtain⟨p0,p1,p2,p3⟩:=d.2;by_cases U:k<n
 . obtain⟨x,A⟩:∃x,p.eD[k]?=K x:=⟨_,an (by rw[O];exact U)⟩;rcases N.2 with⟨e0,_⟩|⟨b,o,c,z,H⟩
   . omega
   simp only[i8,lB]at z;obtain⟨rfl,rfl⟩:=z;have I:=Rd.elem MT.dr H k x A 0 _ rfl;have L:=Rd.elem MT.dr H k x A 1 _ rfl;rw[<-d.1.cell (hC I),kJ]at I;rw[<-d.1.cell (hC L)]at L;have G:=Av A;clear H A;by_cases q:x.func=g/\x.head=l
   . obtain⟨u,B⟩:=q;have S:=Av (J7 G ⟨u,B⟩ λj c m s=>F.o j c m s);rw[u]at I;rw[B]at L;clear u B;go_wp2;go_ret;exact⟨⟨_,rfl,.inr ⟨k,x,rfl,G,S⟩⟩,d.1⟩
   have P:Ae (∀j c,j<k+1->p.eD[j]?=K c->¬(c.func=g/\c.head=l)):= λj c m s=>by
    by_cases e:j=k
    . subst e;rw[G]at s;(cases s);exact q
    exact F.o j c oM s
   by_cases u:x.func=g
   . (have B:¬x.head=l:= λe=>q ⟨u,e⟩);clear q;go_wp2;go_roundw;(case rel=>exact⟨k+1,oM,by go_num,P,d⟩);exact oI
   clear q;go_wp2;go_roundw;(case rel=>exact⟨k+1,oM,by go_num,P,d⟩);exact oI
 have T:k=n:=oM;subst T;go_wp2;go_ret;exact⟨⟨_,rfl,.inl ⟨by go_num,J6 λj c m=>F.o j c (by have:=(i6.1 m).1;rw[O]at this;exact this) m⟩⟩,d.1⟩
end Go.Proofs.YtmalfecapdmdbaaGreat
