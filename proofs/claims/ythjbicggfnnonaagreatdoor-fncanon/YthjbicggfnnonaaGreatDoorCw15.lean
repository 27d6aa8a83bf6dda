import Derived.Test.YthjbicggfnnonaaGreatDoorCw13
namespace Go.Proofs.YthjbicggfnnonaaGreatDoor
open Go.ChangeShapes Go.WideShapes Go.ChangeAt Go.RowKit
set_option linter.unusedVariables false
set_option maxHeartbeats 4000000
set_option maxRecDepth 100000
variable {w u a j:World}{k base g B n x X cap:Nat}{V V' f b c s d:Value}{l:List (ML×Value×Value)}{L:List (Value×List Int)}{t e:TypeId}{O:List Nat}
theorem JN.grow{k:World}{A B:List (Value×List Int)}{l l':List Int}(h:JN w base (A++(V,l)::B))(u:k.ownsRow base 2 1 V' l'.length (l'.flatMap Ad))(s:V'.ownBlock=some g)(m:w.grownBy k V.ownBlock)(t:V.ownBlock=some g\/w.heap.size<=g):JN k base (A++(V',l')::B):=by
 obtain⟨v,z,j⟩:=lX.1 h.sep;obtain⟨r,C⟩:=l3.1 z;have p:∀x:Value×List Int,x∈A++(V,l)::B->Ks x (V,l)->Ks x (V',l'):=fun x c d D n e=>by
  rw[s]at e;have e:=kH e;subst e;rcases t with h1|h1
  . exact d _ n h1
  have:=((h.own x c).lt _ n).2;omega
 refine⟨fun x c=> ?_,lX.2 ⟨v,l3.2 ⟨fun y q=>(p y (by simp[q]) (r y q).symm).symm,C⟩,fun a d b f=> ?_⟩⟩
 . rcases kB.1 c with c|c
   . exact BJ (h.own x (kB.2 (.inl c))) m (fun g i e=>j x c (V,l) sP g i e.symm)
   rcases ka.1 c with rfl|c
   . exact u
   exact BJ (h.own x (kB.2 (.inr (kw _ c)))) m (fun g i e=>r x c g e.symm i)
 rcases ka.1 f with rfl|f
 . exact p a (by simp[d]) (j a d (V,l) sP)
 exact j a d b (kw _ f)
theorem JN.jr(h:JN u B L)(b:Below u.heap.size u a):JN a B L:=⟨fun r c=>Ai (h.own r c) b lR,h.sep⟩
theorem JN.jI{f:World}{cb i:List Int}(h:JN u B L)(p:Below u.heap.size u f)(l:f.ownsRow u.heap.size 2 1 b cb.length (cb.flatMap Ad))(k:f.ownsRow u.heap.size 2 1 c i.length (i.flatMap Ad))(r:∀g,b.ownBlock=some g->c.ownBlock≠some g)(j:B<=u.heap.size):JN f B (L++[(b,cb),(c,i)]):=by
 refine⟨fun x d=> ?_,lX.2 ⟨h.sep,by simpa[Ks]using r,fun a n y m g q e=> ?_⟩⟩
 . rcases kB.1 d with d|d
   . exact Ai (h.own x d) p lR
   simp only[ka,kr,ly]at d;rcases d with rfl|rfl
   . exact Db l j
   exact Db k j
 simp only[ka,kr,ly]at m;have h1:=((h.own a n).lt g q).2;rcases m with rfl|rfl
 . have h2:=(l.lt g e).1;omega
 have h2:=(k.lt g e).1;omega
theorem JN.other{b:Nat}{a:Array Value}(h:JN w base L)(c:Aw w b a t)(d:2≠t)(i:Nat)(x:Value):JN (w.setCell ⟨b,i,none⟩ x) base L:=h.set c d i x
theorem JN.iQ{m:Nat}{v:Value}{b:List Value}(h:JN w base L)(c:w.grownBy a v.ownBlock)(f:w.ownsRow B e k v m b)(d:2≠e):JN a base L:=⟨fun x g=>CU (h.own x g) c f d,h.sep⟩
def CM(x:ML×Value×Value):List Value:=[iZ x.1.head,x.2.1,x.2.2]
theorem CN(x:ML×Value×Value):(CM x).length=3:=rfl
def Tw(w:World)(x:ML×Value×Value):Prop:=Rd w 1 x.2.1 x.1.back.length (x.1.back.flatMap Ad)/\Rd w 1 x.2.2 x.1.blocks.length (x.1.blocks.flatMap Ad)
def Nr(w:World)(s:Value)(b:List ML):Prop:=∃a:List (ML×Value×Value),a.map Prod.fst=b/\Rd w 3 s b.length (a.flatMap CM)/\∀y∈a,Tw w y
theorem Nr.aa{f:World}{e:List ML}(h:Nr w s e)(b:Below B w f)(a:w.heap.size<=B):Nr f s e:=by obtain⟨g,h1,h2,c⟩:=h;exact⟨g,h1,h2.aa b a,fun y d=>⟨(c y d).1.aa b a,(c y d).2.aa b a⟩⟩
theorem Nr.nil(w:World):Nr w sN []:=⟨[],rfl,⟨rfl,.inl ⟨rfl,_,_,rfl⟩⟩,fun y a=>by cases a⟩
def JX(a:List (ML×Value×Value)):List (Value×List Int):=a.flatMap fun y=>[(y.2.1,y.1.back),(y.2.2,y.1.blocks)]
def iv(f:Nat->Nat)(n:Nat):List Value:=(List.range n).map fun i=>Value.int .i64 (f i:Int)
theorem JC(f:Nat->Nat)(n:Nat):(iv f n).length=n:=by simp[iv]
theorem Qd(f:Nat->Nat)(n i:Nat)(h:i<n):(iv f n)[i]?=some (iZ (f i:Int)):=by simp[iv,h]
theorem UB{f g:Nat->Nat}{i:Nat}(h:∀j,j<n->g j=if j=i then x else f j):(iv f n).set i (iZ (x:Int))=iv g n:=by
 apply la;intro j;by_cases a:j<n
 . rw[Qd _ _ _ a,h j a];by_cases e:j=i
   . subst e;rw[lu (by rw[JC];exact a),lI rfl]
   rw[lj oM,Qd _ _ _ a,lE e]
 rw[kK (by simp[JC];omega),kK (by rw[JC];omega)]
theorem TM(n:Nat):(madeCells (Value.int .i64 0).cells (n*1)).toList=iv (fun _=>0) n:=by
 rw[K4 n (fun _=>[]) []];simp[Dd,iv,List.flatten_replicate_singleton];apply la;intro j;by_cases a:j<n
 . simp[a]
 rw[kK oT,kK oT]
def LI(O:List Nat)(k x:Nat):Nat:=if(O.reverse.take k).contains x then Lb O x else 0
theorem Q6(O:List Nat):LI O 0=fun _=>0:=by funext x;simp[LI]
theorem SZ(O:List Nat)(x:Nat)(h:x∈O):LI O O.length x=Lb O x:=by unfold LI;rw[lH sP,lI (by simpa using h)]
theorem Q5(c:O.Nodup)(h:O.reverse[k]?=some x)(n:Nat):∀j,j<n->LI O (k+1) j=if j=x then k else LI O k j:=fun j _=>by
 obtain⟨a,e⟩:=d7.1 h;have d:O.reverse.Nodup:=List.pairwise_reverse.2 (c.imp Ne.symm);have g:Lb O x=k:=by
  have f:x∈O:=by rw[<-nJ,<-e];exact ku a
  have h1:=PM f;obtain⟨i,b⟩:=d7.1 h1;exact(List.getElem_inj d).1 (b.trans e.symm)
 unfold LI;rw[kQ a,e];by_cases q:j=x
 . subst q;rw[lI sP,lI rfl,g]
 rw[lE q];have:(O.reverse.take k++[x]).contains j=(O.reverse.take k).contains j:=by simp[q]
 rw[this]
theorem TL:(Tryz.prog.info? 3).map (fun i=>(i.zero,i.size,i.bytes))=some (some (iZ 0),1,8):=kR
structure PC(w u:World)(n X gp:Nat)(Vb Vo:Value)(O:List Nat)(k:Nat):Prop where
 cC:Aw u X #[iZ 0,iZ 0,Vb,Vo,sN,sN] 210
 place:u.ownsRow w.heap.size 3 1 (sG gp n n) n (iv (LI O k) n)
 order:Kb u w.heap.size Vo (O.reverse.take k)
 aC:Below w.heap.size w u
 lt:w.heap.size<=X
theorem PC.aa{e:World}{d:Nat}(h:PC w u n X d b c O k)(a:Below u.heap.size u e):PC w e n X d b c O k:=⟨h.cC.aa a,Ai h.place a lR,h.order.aa a,Ac h.aC lR a,h.lt⟩
structure PD(w u:World)(n X gp:Nat)(Vb Vo:Value)(O:List Nat)(k:Nat):Prop where
 cC:Aw u X #[iZ 0,iZ 0,Vb,Vo,sN,sN] 210
 place:u.ownsRow w.heap.size 3 1 (sG gp n n) n (iv (LI O (k+1)) n)
 order:Kb u w.heap.size Vo (O.reverse.take k)
 aC:Below w.heap.size w u
 lt:w.heap.size<=X
theorem PD.aa{e:World}{d:Nat}(h:PD w u n X d b c O k)(a:Below u.heap.size u e):PD w e n X d b c O k:=⟨h.cC.aa a,Ai h.place a lR,h.order.aa a,Ac h.aC lR a,h.lt⟩
theorem KB{b:Nat}{a:Array Value}{xs:List Value}(c:Aw w b a t)(h:w.ownsRow base e k s n xs)(d:e≠t):s.ownBlock≠some b:=fun q=>B3 h c d b q rfl
theorem PC.set{a:Nat}(h:PC w u n X a b c O k)(d:O.Nodup)(f:O.reverse[k]?=some x):PD w (u.setCell ⟨a,x,none⟩ (iZ (k:Int))) n X a b c O k:=by refine⟨h.cC.other (fun e=>KB h.cC h.place dC (by rw[e];rfl)) _,?_,CA h.order h.place dC _ _,h.aC.setCell (AQ h.place).1 _,h.lt⟩;have:=(h.place.stored x (iZ (k:Int))).1;rw[UB (Q5 d f n)]at this;exact this
theorem PD.al{c:Nat}{a:Value}(h:PD w u n X c b a O k):u.ownsRow w.heap.size 2 1 a (O.reverse.take k).length (nv (O.reverse.take k))/\w.heap.size<=u.heap.size:=⟨h.order,h.aC.size⟩
theorem PD.en{b:World}(h:PD w u n X g d f O k)(s:O.reverse[k]?=some x)(l:b.ownsRow w.heap.size 2 1 V' ((O.reverse.take k).length+1) (nv (O.reverse.take k)++[iZ (x:Int)]))(j:u.grownBy b f.ownBlock):Aw b X #[iZ 0,iZ 0,d,f,sN,sN] 210/\PC w (b.setCell ⟨X,3,none⟩ V') n X g d V' O (k+1):=by
 have c:=h.cC.grown j h.order dC;have m:b.ownsRow w.heap.size 3 1 (sG g n n) n (iv (LI O (k+1)) n):=CU h.place j h.order dC;have p:Below w.heap.size w b:=h.aC.grown j h.aC.size (fun i q=>(h.order.lt i q).1);refine⟨c,?_,i9 m (a:=⟨X,3,none⟩) (KB c m dC) _,?_,p.setCell h.lt _,h.lt⟩
 . have:=c.set 3 V';simpa using this
 obtain⟨r,e⟩:=d7.1 s;unfold Kb;rw[kQ r,e,JI,f6,jY];exact i9 l (a:=⟨X,3,none⟩) (KB c l dC) _
structure PF(w6 u:World)(X:Nat)(Vb Vo Vi:Value)(Is:List Int)(Vl:Value)(ys:List (ML×Value×Value)):Prop where
 cC:Aw u X #[iZ 0,iZ 0,Vb,Vo,Vi,Vl] 210
 jc:JN u w6.heap.size ((Vi,Is)::JX ys)
 iN:u.ownsRow w6.heap.size 218 3 Vl ys.length (ys.flatMap CM)
 fx:∀k,k<w6.heap.size->k≠X->u.heap[k]?=w6.heap[k]?
 size:w6.heap.size<=u.heap.size
 aC:Below X w6 u
 lt:X<w6.heap.size
theorem PF.aa{i:World}{e:Value}{b:List Int}(h:PF j u X c f d b e l)(a:Below u.heap.size u i):PF j i X c f d b e l:=⟨h.cC.aa a,h.jc.jr a,Ai h.iN a lR,fun k g m=>by rw[a.block k (lA g h.size)];exact h.fx k g m,jX h.size a.size,h.aC.trans (a.mono (by have:=h.lt;have:=h.size;omega)),h.lt⟩
theorem PF.cell{c:World}{e i g:Value}{d:List Int}{k:List (ML×Value×Value)}(h:PF c u X e i f d g k){a:Addr}{x:Value}(b:c.cell? a=some x)(j:a.block≠X):u.cell? a=some x:=by have:=h.fx a.block (d5 b) j;unfold World.cell? at*;rw[this];exact b
theorem PF.ej{c:World}{q r m:Value}{b:List Int}{z:Int}(h:PF j u X q r f b m l)(y:c.ownsRow j.heap.size 2 1 (sG g (b.length+1) cap) (b.length+1) (b.flatMap Ad++[iZ z]))(d:u.grownBy c f.ownBlock)(w:f.ownBlock=some g\/g=u.heap.size):Aw c X #[iZ 0,iZ 0,q,r,f,m] 210/\PF j (c.setCell ⟨X,4,none⟩ (sG g (b.length+1) cap)) X q r (sG g (b.length+1) cap) (b++[z]) m l:=by
 have p:=h.jc.own (f,b) (lS ..);have n:=h.cC.grown d p dC;have v:c.ownsRow j.heap.size 218 3 m l.length (l.flatMap CM):=CU h.iN d p dC;have B:JN c j.heap.size ((sG g (b.length+1) cap,b++[z])::JX l):=by have:=JN.grow (A:=[]) (l':=b++[z]) (V':=sG g (b.length+1) cap) (g:=g) h.jc (by rw[f6,jY,kO];exact y) rfl d (w.imp id fun e=>oM);simpa using this
 refine⟨n,?_,B.other n dC 4 _,i9 v (a:=⟨X,4,none⟩) (KB n v dC) _,fun k s t=> ?_,?_,?_,h.lt⟩
 . have:=n.set 4 (sG g (b.length+1) cap);simpa using this
 . rw[km c _ k _ t,d.block k (lA s h.size) (fun e=>by have:=(p.lt k e.symm).1;omega)];exact h.fx k s t
 . rw[lM];exact jX h.size d.size
 exact(h.aC.grown d (by have:=h.lt;have:=h.size;omega) (fun i x=>by have:=(p.lt i x).1;have:=h.lt;omega)).setCell lR _
theorem PF.loop{r p:World}{w y l x:Value}{s:List Int}{c:List (ML×Value×Value)}{m:ML}(h:PF r u X w y l s x c)(z:Below u.heap.size u p)(h1:p.ownsRow u.heap.size 2 1 d m.back.length (m.back.flatMap Ad))(h2:p.ownsRow u.heap.size 2 1 f m.blocks.length (m.blocks.flatMap Ad))(t:∀q,d.ownBlock=some q->f.ownBlock≠some q)(B:j.ownsRow r.heap.size 218 3 (sG g (c.length+1) cap) (c.length+1) (c.flatMap CM++[iZ m.head,d,f]))(n:p.grownBy j x.ownBlock):Aw j X #[iZ 0,iZ 0,w,y,l,x] 210/\PF r (j.setCell ⟨X,5,none⟩ (sG g (c.length+1) cap)) X w y l s (sG g (c.length+1) cap) (c++[(m,d,f)]):=by
 have b:=h.aa z;have v:=b.cC.grown n b.iN dC;have E:JN p r.heap.size ((l,s)::JX (c++[(m,d,f)])):=by have:=h.jc.jI z h1 h2 t h.size;simpa[JX]using this
 have D:JN j r.heap.size ((l,s)::JX (c++[(m,d,f)])):=E.iQ n b.iN dC;refine⟨v,?_,D.other v dC 5 _,?_,fun k A t=> ?_,?_,?_,h.lt⟩
 . have:=v.set 5 (sG g (c.length+1) cap);simpa using this
 . rw[f6,jY,kO];exact i9 B (a:=⟨X,5,none⟩) (KB v B dC) _
 . rw[km j _ k _ t,n.block k (lA A b.size) (fun e=>by have:=(b.iN.lt k e.symm).1;omega)];exact b.fx k A t
 . rw[lM];exact jX b.size n.size
 exact(b.aC.grown n (by have:=h.lt;have:=b.size;omega) (fun i C=>by have:=(b.iN.lt i C).1;have:=h.lt;omega)).setCell lR _
theorem Jg(E:Nat->List Nat)(D L:Nat->Nat->Bool)(n b:Nat):DN E D L n (b+1)=DN E D L n b++(if BM E D n b=[]then[]else[⟨(b:Int),Fa (BM E D n b),Fa ((List.range n).filter (L b))⟩]):=by
 unfold DN;rw[mF,List.filterMap_append];by_cases h:BM E D n b=[]
 . simp[h]
 simp[h]
theorem PO(B I L:Nat)(a:Option Addr)(c:Nat)(b:List Int)(k:Nat)(w:World)(h:IF w B I L a c b k):
 Calls Tryz.prog 59 #[.pointer (some ⟨I,0,none⟩)] w (QB (B4 b 2) (fun D E V=>(Ay V E).own D w.heap.size) w B I L a c b k):=by
 have g:=Ag (Br.start h);have s:=Ag h.hz;go_enter Tryz.func59,Tryz.ntmps59;go_wp2_with fail;refine(Bv B I L a c b 2 k _ oM oM g.o.dr.at_).mono ?_;rintro e H (⟨x1,V,z,rfl,d,rfl,l⟩|⟨rfl,m,j⟩);rotate_left
 . unfold BF;go_wp2;exact⟨rfl,.inr ⟨rfl,AB m,g.o.dr.gH.gP j⟩⟩
 have i:=Ag (g.o.read l);have p:=Ag d;obtain⟨C,G⟩:=Ff s.o oM d;obtain⟨r,rfl⟩:=i7 C;have F:r<=65535:=oM;go_wp2_with fail;refine(Hn B I L a c b r z _ oM i.o.dr.at_).mono ?_;rintro e J (⟨f,u,A,rfl,d,q,l⟩|⟨rfl,m,j⟩);rotate_left
 . unfold BF;go_wp2;exact⟨rfl,.inr ⟨rfl,(Am p.o m),i.o.dr.gH.gP j⟩⟩
 obtain⟨v,x,y⟩:∃a c,u=.slice a f.length c:=AO q;subst y;have n:=Ag (i.o.row l q);have t:=Ag d;go_wp2;go_ret;exact .inl ⟨f,_,A,rfl,Am p.o t.o,n.o.sep.own (Ay (.slice v f.length x) f) sP,n.o.dr⟩
theorem MH(B I L:Nat)(a:Option Addr)(c:Nat)(b:List Int)(k:Nat)(w:World)(h:IF w B I L a c b k):
 Calls Tryz.prog 63 #[.pointer (some ⟨I,0,none⟩)] w (QB (Fb b) (fun w' f V=>∃G:VF,V=.agg #[G.p,iZ f.result,G.l,G.c]/\CJ w' w.heap.size (Bl (f,G))) w B I L a c b k):=by
 have H:Hid (Br w (w.alloc (.cells #[sN,iZ 0,sN,sN] 68)) [fb w.heap.size sN 0 sN sN] B I L a c b k):=(Br.start h).box 68 4 _ rfl;have Q:=Ag h.hz;go_enter Tryz.func63,Tryz.ntmps63;go_wp2_with fail;refine(Bv B I L a c b 1 k _ oM oM H.o.dr.at_).mono ?_;rintro e u1 (⟨x1,V,k1,rfl,d,rfl,i⟩|⟨rfl,j,g⟩);rotate_left
 . unfold BF;go_wp2;exact⟨rfl,.inr ⟨rfl,AB (AB j),H.o.dr.gH.gP g⟩⟩
 have J:=Ag (H.o.read i);have s:=Ag d;obtain⟨p1,ah⟩:=Ff Q.o oM d;obtain⟨W,rfl⟩:=i7 p1;have a6:W<=65535:=oM;go_wp2_with fail;refine(Hn B I L a c b W k1 _ oM J.o.dr.at_).mono ?_;rintro e u2 (⟨q,V2,k2,rfl,d,m,i⟩|⟨rfl,j,g⟩);rotate_left
 . unfold BF;go_wp2;exact⟨rfl,.inr ⟨rfl,(AB (Am s.o j)),J.o.dr.gH.gP g⟩⟩
 obtain⟨x,A,e2⟩:∃a c,V2=.slice a q.length c:=AO m;subst e2;have K:=Ag (J.o.row i m);have t:=Ag d;go_wp2_with fail;refine(GR B I L a c b k2 _ K.o.dr.at_).mono ?_;rintro e u3 (⟨x3,V,k3,rfl,d,rfl,i⟩|⟨rfl,j,g⟩);rotate_left
 . unfold BF;go_wp2;exact⟨rfl,.inr ⟨rfl,(Am (r:=B4 b 1) (Am s.o t.o) (AB j)),K.o.dr.gH.gP g⟩⟩
 have M:=Ag (K.o.read i);have u:=Ag d;go_wp2_with fail;refine(Bv B I L a c b 1 k3 _ oM oM M.o.dr.at_).mono ?_;rintro e u4 (⟨x4,V,k4,rfl,d,rfl,i⟩|⟨rfl,j,g⟩);rotate_left
 . unfold BF;go_wp2;exact⟨rfl,.inr ⟨rfl,(Am (r:=B4 b 1) (Am s.o t.o) (Am u.o (AB (AB j)))),M.o.dr.gH.gP g⟩⟩
 have N:=Ag (M.o.read i);have F:=Ag d;obtain⟨p4,aj⟩:=Ff Q.o oM d;obtain⟨X,rfl⟩:=i7 p4;have a8:X<=65535:=oM;go_wp2_with fail;refine(Hn B I L a c b X k4 _ oM N.o.dr.at_).mono ?_;rintro e u5 (⟨n,V5,k5,rfl,d,m,i⟩|⟨rfl,j,g⟩);rotate_left
 . unfold BF;go_wp2;exact⟨rfl,.inr ⟨rfl,(Am (r:=B4 b 1) (Am s.o t.o) (Am u.o (AB (Am F.o j)))),N.o.dr.gH.gP g⟩⟩
 obtain⟨y,C,e5⟩:∃a c,V5=.slice a n.length c:=AO m;subst e5;have O:=Ag (N.o.row i m);have R:=Ag d;go_wp2_with fail;refine(Bv B I L a c b 2 k5 _ oM oM O.o.dr.at_).mono ?_;rintro e u6 (⟨x6,V,k6,rfl,d,rfl,i⟩|⟨rfl,j,g⟩);rotate_left
 . unfold BF;go_wp2;exact⟨rfl,.inr ⟨rfl,(Am (r:=B4 b 1) (Am s.o t.o) (Am u.o (Am (r:=B4 b 1) (Am F.o R.o) (AB (AB j))))),O.o.dr.gH.gP g⟩⟩
 have P:=Ag (O.o.read i);have T:=Ag d;obtain⟨p6,am⟩:=Ff Q.o oM d;obtain⟨Y,rfl⟩:=i7 p6;have ae:Y<=65535:=oM;go_wp2_with fail;refine(LG B I L a c b Y k6 _ oM P.o.dr.at_).mono ?_;rintro e u7 (⟨code,V7,U,rfl,d,m,i⟩|⟨rfl,j,g⟩);rotate_left
 . unfold BF;go_wp2;exact⟨rfl,.inr ⟨rfl,(Am (r:=B4 b 1) (Am s.o t.o) (Am u.o (Am (r:=B4 b 1) (Am F.o R.o) (AB (Am T.o j))))),P.o.dr.gH.gP g⟩⟩
 obtain⟨z,D,e7⟩:∃a c,V7=.slice a code.length c:=AO m;subst e7;have S:=Ag (P.o.row i m);have R7:=Ag d;obtain⟨⟨q0,q1,q2,q3⟩,f0,f1,f2,f3⟩:=S.o.four (show fb w.heap.size sN 0 sN sN∈_ from sP);go_wp2;have E:=Ag (S.o.gU (.slice x q.length A) (iZ x3) (.slice y n.length C) (.slice z code.length D));generalize (((u7.setCell ⟨w.heap.size,0,none⟩ (.slice x q.length A)).setCell ⟨w.heap.size,1,none⟩ (iZ x3)).setCell ⟨w.heap.size,2,none⟩ (.slice y n.length C)).setCell ⟨w.heap.size,3,none⟩ (.slice z code.length D)=WF at E⊢;obtain⟨⟨r0,r1,r2,r3⟩,-⟩:=E.o.four (show fb w.heap.size (.slice x q.length A) x3 (.slice y n.length C) (.slice z code.length D)∈_ from sP);have Z:Hid (Fb b k=some (⟨q,x3,n,code⟩,U)):=(Am (r:=B4 b 1) (Am s.o t.o) (Am u.o (Am (r:=B4 b 1) (Am F.o R.o) (Am (r:=Eg b 2 (FY b)) (Am T.o R7.o) rfl))));exact i6 (v:=.agg #[.slice x q.length A,iZ x3,.slice y n.length C,.slice z code.length D]) (by simp[results,Tryz.results63,go_sem,r0,r1,r2,r3]) rfl (.inl ⟨⟨q,x3,n,code⟩,_,U,rfl,Z.o,⟨⟨.slice x q.length A,.slice y n.length C,.slice z code.length D⟩,rfl,E.o.sep.sub (List.sublist_cons_self _ _)⟩,E.o.dr⟩)
section
variable {w u u':World} {B I L:Nat} {a:Option Addr} {c:Nat} {zs:List Int} {k:Nat}
theorem Br.jq{F:List (List Int×Value)}{x:Value}{xs:List Int}(h:Br w u ((Bf s F::A5 F)++[Ay x xs]) B I L a c zs k)(e:u'.ownsRow w.heap.size 58 1 V (F.length+1) (F.flatMap Bi++[x]))(d:u.grownBy u' s.ownBlock)(b:V.ownBlock=s.ownBlock\/V.ownBlock=some u.heap.size):Br w u' (Bf V (F++[(xs,x)])::A5 (F++[(xs,x)])) B I L a c zs k:=by have h2:=Br.en (A:=[]) (C:=A5 F++[Ay x xs]) h (Bf V (F++[(xs,x)])) (by simpa[Ax.own,Bf,Bi]using e) d b;rw[J8];exact h2
theorem Br.js{G:List (MF×VF)}{y:MF×VF}(h:Br w u ((AP s G::AV G)++Bl y) B I L a c zs k)(e:u'.ownsRow w.heap.size 68 4 V (G.length+1) (G.flatMap AJ++AJ y))(d:u.grownBy u' s.ownBlock)(b:V.ownBlock=s.ownBlock\/V.ownBlock=some u.heap.size):Br w u' (AP V (G++[y])::AV (G++[y])) B I L a c zs k:=by have h2:=Br.en (A:=[]) (C:=AV G++Bl y) h (AP V (G++[y])) (by simpa[Ax.own,AP]using e) d b;rw[Hh];exact h2
end
theorem K3(B I L:Nat)(a:Option Addr)(c:Nat)(zs:List Int)(n k:Nat)(w:World)(hn:n<=65535)(h:IF w B I L a c zs k):
 Calls Tryz.prog 58 #[iZ (n:Int),.func (Fn.func 59) #[.pointer (some ⟨I,0,none⟩)] #[]] w (QB (A9 (B4 zs 2) n) (fun Z ys V=>∃F:List (List Int×Value),F.map Prod.fst=ys/\CJ Z w.heap.size (Bf V F::A5 F)) w B I L a c zs k):=by
 obtain⟨X,Q,T,U,W⟩:=kS Sw;have A:=Ag ((Br.start h).nil 58 1);clear h;go_enter Tryz.func58,Tryz.ntmps58;go_wp2;go_loopw [5,7] (fun o i wr=>∃(j:Nat) (F:List (List Int×Value)) (m:Nat) (b:Option Addr) (d:Nat),o=.slice b F.length d/\i=iZ (j:Int)/\j<=n/\Hid (F.length=j/\A9 (B4 zs 2) j k=some (F.map Prod.fst,m)/\Br w wr (Bf (.slice b F.length d) F::A5 F) B I L a c zs m)) (fun _ i _=>n-(intOf i).toNat)
 case atStart=>exact⟨0,[],k,none,0,rfl,rfl,oM,rfl,rfl,A.o⟩
 case round=>
  clear A;obtain⟨j,F,m,b,d,rfl,rfl,hj,g⟩:=hrel;have C:=Ag g.o.1;have ae:F.length<=65535:=by rw[C.o];omega
  by_cases ah:j<n
  . have aj:(j:Int)<(n:Int):=oM;go_wp2_with fail;refine(PO B I L a c zs m wr g.o.2.2.dr.at_).mono ?_;rintro e p (⟨x,V,t,rfl,s,l,J⟩|⟨rfl,R,P⟩);rotate_left
    . unfold BF;go_wp2;exact⟨rfl,.inr ⟨rfl,Dp (EE g.o.2.1 R) oM,g.o.2.2.dr.gH.gP P⟩⟩
    obtain⟨f,c5,v⟩:∃a c,V=.slice a x.length c:=AO l;subst v;(replace l:CJ p wr.heap.size [Ay (.slice f x.length c5) x]:=⟨fun r s=>by rw[kM.1 s];exact l,mo _ _⟩);have q:Hid (Br w (p.alloc (.cells #[.slice f x.length c5] 58)) ((Bf (.slice b F.length d) F::A5 F)++[Ay (.slice f x.length c5) x]) B I L a c zs t):=(g.o.2.2.rows J l).aa (Aa _ _);(have O:Hid (A9 (B4 zs 2) (j+1) k=some ((F++[(x,Value.slice f x.length c5)]).map Prod.fst,t)):=by have:=Ez g.o.2.1 s;simpa[Hid]using this);have D:Hid ((p.alloc (.cells #[.slice f x.length c5] 58)).ownsRow w.heap.size 58 1 (.slice b F.length d) F.length (F.flatMap Bi)):=q.o.sep.own (Bf (.slice b F.length d) F) sP;have S:=q.o.size;clear s J l g;go_wp2_with (at_builtin;refine wpList_append_own_at _ rfl _ _ 24 rfl w.heap.size 58 X sN 1 24 Tryz.underlying24 Q T U W rfl dC _ _ _ rfl D.o ⟨p.heap.size,0,none⟩ 1 1 [.slice f x.length c5] rfl rfl (DL p [.slice f x.length c5] 58) (by intro u M;simp at M;subst M;rfl) oX oM S ?_;intro V' Y z K _ H;obtain⟨E,G,v⟩:=AO z;subst v;have N:Hid (Br w Y (Bf (.slice E (F.length+1) G) (F++[(x,Value.slice f x.length c5)])::A5 (F++[(x,Value.slice f x.length c5)])) B I L a c zs t):=q.o.jq z K H;clear z K H q D);go_roundw;(case rel=>have y:(F++[(x,Value.slice f x.length c5)]).length=F.length+1:=sP;refine⟨j+1,(F++[(x,Value.slice f x.length c5)]),t,E,G,by rw[y],by go_num,oM,by rw[y,C.o],O.o,?_⟩;rw[y];exact N.o);case measure=>exact oI
  have a8:n=j:=oM;have a6:¬(j:Int)<(n:Int):=oM;go_wp2;go_ret;exact .inl ⟨_,_,m,rfl,g.o.2.1,⟨F,rfl,g.o.2.2.sep⟩,g.o.2.2.dr⟩
theorem MU(B I L:Nat)(a:Option Addr)(c:Nat)(zs:List Int)(n k:Nat)(w:World)(hn:n<=65535)(h:IF w B I L a c zs k):
 Calls Tryz.prog 62 #[iZ (n:Int),.func (Fn.func 63) #[.pointer (some ⟨I,0,none⟩)] #[]] w (QB (A9 (Fb zs) n) (fun w' ys V=>∃F:List (MF×VF),F.map Prod.fst=ys/\CJ w' w.heap.size (AP V F::AV F)) w B I L a c zs k):=by
 obtain⟨i0,Y,a8,ae,ah⟩:=kS Qc;have D:=Ag ((Br.start h).nil 68 4);clear h;go_enter Tryz.func62,Tryz.ntmps62;go_wp2;go_loopw [5,7] (fun o i wr=>∃(j:Nat) (F:List (MF×VF)) (t:Nat) (b:Option Addr) (d:Nat),o=.slice b F.length d/\i=iZ (j:Int)/\j<=n/\Hid (F.length=j/\A9 (Fb zs) j k=some (F.map Prod.fst,t)/\Br w wr (AP (.slice b F.length d) F::AV F) B I L a c zs t)) (fun _ i _=>n-(intOf i).toNat)
 case atStart=>exact⟨0,[],k,none,0,rfl,rfl,oM,rfl,rfl,D.o⟩
 case round=>
  clear D;obtain⟨j,F,t,b,d,rfl,rfl,hj,g⟩:=hrel;have E:=Ag g.o.1;have ao:F.length<=65535:=by rw[E.o];omega
  by_cases aq:j<n
  . have au:(j:Int)<(n:Int):=oM;go_wp2_with fail;refine(MH B I L a c zs t wr g.o.2.2.dr.at_).mono ?_;rintro e z (⟨x,V,y,rfl,O,s,M⟩|⟨rfl,Z,X⟩);rotate_left
    . unfold BF;go_wp2;exact⟨rfl,.inr ⟨rfl,Dp (EE g.o.2.1 Z) oM,g.o.2.2.dr.gH.gP X⟩⟩
    obtain⟨⟨S,R,Q⟩,rfl,s⟩:=s;obtain⟨l,m,h1⟩:∃a c,S=.slice a x.params.length c:=AO (s.own (Ay S x.params) (by simp[Bl]));obtain⟨p,q,h2⟩:∃a c,R=.slice a x.locals.length c:=AO (s.own (Ay R x.locals) (by simp[Bl]));obtain⟨f,r,W⟩:∃a c,Q=.slice a x.code.length c:=AO (s.own (A3 Q x.code) (by simp[Bl]));subst h1 h2 W;have v:Hid (Br w (z.alloc (.cells #[.slice l x.params.length m,iZ x.result,.slice p x.locals.length q,.slice f x.code.length r] 68)) ((AP (.slice b F.length d) F::AV F)++Bl (x,(⟨.slice l x.params.length m,.slice p x.locals.length q,.slice f x.code.length r⟩:VF))) B I L a c zs y):=(g.o.2.2.rows M s).aa (Aa _ _);(have U:Hid (A9 (Fb zs) (j+1) k=some ((F++[(x,(⟨.slice l x.params.length m,.slice p x.locals.length q,.slice f x.code.length r⟩:VF))]).map Prod.fst,y)):=by have:=Ez g.o.2.1 O;simpa[Hid]using this);have G:Hid ((z.alloc (.cells #[.slice l x.params.length m,iZ x.result,.slice p x.locals.length q,.slice f x.code.length r] 68)).ownsRow w.heap.size 68 4 (.slice b F.length d) F.length (F.flatMap AJ)):=v.o.sep.own (AP (.slice b F.length d) F) sP;have a6:=v.o.size;clear O M s g
    go_wp2_with (at_builtin;refine wpList_append_own_at _ rfl _ _ 26 rfl w.heap.size 68 i0 (.agg #[sN,iZ 0,sN,sN]) 4 80 Tryz.underlying26 Y a8 ae ah rfl dC _ _ _ rfl G.o ⟨z.heap.size,0,none⟩ 1 1 [.slice l x.params.length m,iZ x.result,.slice p x.locals.length q,.slice f x.code.length r] rfl rfl (DL z [.slice l x.params.length m,iZ x.result,.slice p x.locals.length q,.slice f x.code.length r] 68) (by intro u P;simp at P;rcases P with rfl|rfl|rfl|rfl<;>rfl) oX oM a6 ?_;intro V' u5 C N _ K;obtain⟨H,J,f⟩:=AO C;subst f;have T:Hid (Br w u5 (AP (.slice H (F.length+1) J) (F++[(x,(⟨.slice l x.params.length m,.slice p x.locals.length q,.slice f x.code.length r⟩:VF))])::AV (F++[(x,(⟨.slice l x.params.length m,.slice p x.locals.length q,.slice f x.code.length r⟩:VF))])) B I L a c zs y):=v.o.js C N K;clear C N K v G);go_roundw;(case rel=>have A:(F++[(x,(⟨.slice l x.params.length m,.slice p x.locals.length q,.slice f x.code.length r⟩:VF))]).length=F.length+1:=sP;refine⟨j+1,(F++[(x,(⟨.slice l x.params.length m,.slice p x.locals.length q,.slice f x.code.length r⟩:VF))]),y,H,J,by rw[A],by go_num,oM,by rw[A,E.o],U.o,?_⟩;rw[A];exact T.o);case measure=>exact oI
  have am:n=j:=oM;have aj:¬(j:Int)<(n:Int):=oM;go_wp2;go_ret;exact .inl ⟨_,_,t,rfl,g.o.2.1,⟨F,rfl,g.o.2.2.sep⟩,g.o.2.2.dr⟩
end Go.Proofs.YthjbicggfnnonaaGreatDoor
