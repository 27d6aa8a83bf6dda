import Derived.Test.YtadcneiiokbofaaGreatBo7
import Derived.Test.YtadcneiiokbofaaGreatBo5
namespace Go.Proofs.YtadcneiiokbofaaGreat
open Go.ChangeShapes Go.WideShapes Go.ChangeAt Go.RowKit Go.Proofs.Tryz
set_option linter.unusedVariables false
open Option renaming some → K,none → M
open Go renaming Value → J,World → Y,TypeId → Aj,Calls → Ai
open Go.IntKind renaming i64 → Af
open Go.Value renaming int → Ag,slice → Z,bool → An,tuple → Ao,agg → Am
open Go.RowKit renaming Below → Ah,Hid → Ae
open Go.World renaming setCell → Aa,ownsRow → Ab,alloc → Ac
open List renaming flatMap → Ad
open Go.Obj renaming cells → Ak
open Go.Ending renaming returned → Al
open Go.Proofs.Tryz renaming prog → Ap
set_option maxHeartbeats 8000000
set_option maxRecDepth 100000
variable {w u a j:Y}{k base g B n x X cap:Nat}{V' f b c s d:J}{l:List (ML×J×J)}{L:List (J×List Int)}{cb:List Int}{t e:Aj}{O:List Nat}
theorem Cl.grow{k:Y}{A B:List (J×List Int)}{V:J}{l l':List Int}(h:Cl w base (A++(V,l)::B))(v:Ab k base 2 1 V' l' (Ad As l'))(t:V'.ownBlock=K g)(n:w.grownBy k V.ownBlock)(u:V.ownBlock=K g\/ ↑w<=g):Cl k base (A++(V',l')::B):=by
 obtain⟨z,C,j⟩:=nw.1 h.sep;obtain⟨s,D⟩:=mj.1 C;have q:∀x:J×List Int,x∈A++(V,l)::B->Jk x (V,l)->Jk x (V',l'):= λx c d E p e=>by
  rw[t]at e;have e:=lP e;subst e;rcases u with m|m
  . exact d _ p m
  have:=((h.own x c).lt _ p).2;omega
 refine⟨λx c=> ?_,nw.2 ⟨z,mj.2 ⟨λy r=>(q y (by simp[r]) (s y r).symm).symm,D⟩, λa d b f=> ?_⟩⟩
 . rcases lT.1 c with c|c
   . exact Dz (h.own x (lT.2 (.inl c))) n (λg i e=>j x c (V,l) sP g i e.symm)
   rcases lw.1 c with rfl|c
   . exact v
   exact Dz (h.own x (lT.2 (.inr (mX _ c)))) n (λg i e=>s x c g e.symm i)
 rcases lw.1 f with rfl|f
 . exact q a (by simp[d]) (j a d (V,l) sP)
 exact j a d b (mX _ f)
theorem Cl.iQ(h:Cl u B L)(b:Ah u u a):Cl a B L:=⟨λr c=>Aw (h.own r c) b lR,h.sep⟩
theorem Cl.join{f:Y}(h:Cl u B L)(m:Ah u u f)(j:Ab f u 2 1 b cb (Ad As cb))(k:B<= ↑u):Cl f B (L++[(b,cb)]):=by
 refine⟨λx d=> ?_,nw.2 ⟨h.sep,sP, λa l c i g n e=> ?_⟩⟩
 . rcases lT.1 d with d|d
   . exact Aw (h.own x d) m lR
   simp only[lw,mK,nJ]at d;subst d;exact Bb j k
 simp only[lw,mK,nJ]at i;subst i;have p:=((h.own a l).lt g n).2;have q:=(j.lt g e).1;omega
theorem Cl.kS{f:Y}{cc:List Int}(h:Cl u B L)(p:Ah u u f)(k:Ab f u 2 1 b cb (Ad As cb))(j:Ab f u 2 1 c cc (Ad As cc))(r:∀g,b.ownBlock=K g->c.ownBlock≠K g)(i:B<= ↑u):Cl f B (L++[(b,cb),(c,cc)]):=by
 refine⟨λx d=> ?_,nw.2 ⟨h.sep,by simpa[Jk]using r, λa n y l g q e=> ?_⟩⟩
 . rcases lT.1 d with d|d
   . exact Aw (h.own x d) p lR
   simp only[lw,mK,nJ]at d;rcases d with rfl|rfl
   . exact Bb k i
   exact Bb j i
 simp only[lw,mK,nJ]at l;have s:=((h.own a n).lt g q).2;rcases l with rfl|rfl
 . have m:=(k.lt g e).1;omega
 have m:=(j.lt g e).1;omega
theorem Cl.other{b:Nat}{a:Array J}(h:Cl w base L)(c:AA w b a t)(d:2≠t)(i:Nat)(x:J):Cl (Aa w ⟨b,i,M⟩ x) base L:=h.set c d i x
theorem Cl.iG{m:Nat}{v:J}{b:List J}(h:Cl w base L)(c:w.grownBy a v.ownBlock)(f:Ab w B e k v m b)(d:2≠e):Cl a base L:=⟨λx g=>B3 (h.own x g) c f d,h.sep⟩
def BS(x:ML×J×J):List J:=[x.1.head,x.2.1,x.2.2]
theorem Cp(x:ML×J×J):(BS x).length=3:=rfl
def UH(w:Y)(x:ML×J×J):Prop:=Rd w 1 x.2.1 x.1.back (Ad As x.1.back)/\Rd w 1 x.2.2 x.1.a8 (Ad As x.1.a8)
def MJ(w:Y)(s:J)(b:List ML):Prop:=∃a:List (ML×J×J),a.map Prod.fst=b/\Rd w 3 s b (Ad BS a)/\∀y∈a,UH w y
theorem MJ.a7{f:Y}{e:List ML}(h:MJ w s e)(b:Ah B w f)(a: ↑w<=B):MJ f s e:=by obtain⟨j,g,i,c⟩:=h;exact⟨j,g,i.a7 b a, λy d=>⟨(c y d).1.a7 b a,(c y d).2.a7 b a⟩⟩
theorem MJ.nil(w:Y):MJ w sN []:=⟨[],rfl,⟨rfl,.inl ⟨rfl,_,_,rfl⟩⟩, λy a=>by cases a⟩
def EZ(a:List (ML×J×J)):List (J×List Int):=a.flatMap λy=>[(y.2.1,y.1.back),(y.2.2,y.1.a8)]
def iv(f:Nat->Nat)(n:Nat):List J:=(List.range n).map λi=>Ag Af (f i:Int)
theorem J7(f:Nat->Nat)(n:Nat):(iv f n).length=n:=by simp[iv]
theorem NF(f:Nat->Nat)(n i:Nat)(h:i<n):(iv f n)[i]?=K ↑(f i:Int):=by simp[iv,h]
theorem Vq{f g:Nat->Nat}{i:Nat}(h:∀j,j<n->g j=if j=i then x else f j):(iv f n).set i x=iv g n:=by
 apply nB;intro j;by_cases a:j<n
 . rw[NF _ _ _ a,h j a];by_cases e:j=i
   . subst e;rw[mi (by rw[J7];exact a),lZ rfl]
   rw[mu oM,NF _ _ _ a,lS e]
 rw[lW (by simp[J7];omega),lW (by rw[J7];omega)]
theorem Td(n:Nat):(madeCells (Ag Af 0).cells (n*1)).toList=iv (λ_=>0) n:=by
 rw[JE n (λ_=>[]) []];simp[BG,iv,List.flatten_replicate_singleton];apply nB;intro j;by_cases a:j<n
 . simp[a]
 rw[lW oT,lW oT]
def Mf(O:List Nat)(k x:Nat):Nat:=if(O.reverse.take k).contains x then Dl O x else 0
theorem N2(O:List Nat):Mf O 0= λ_=>0:=by funext x;simp[Mf]
theorem QD(O:List Nat)(x:Nat)(h:x∈O):Mf O O x=Dl O x:=by unfold Mf;rw[mC sP,lZ (by simpa using h)]
theorem N1(d:O.Nodup)(i:O.reverse[k]?=K x)(n:Nat):∀j,j<n->Mf O (k+1) j=if j=x then k else Mf O k j:= λj _=>by
 obtain⟨a,e⟩:=i8.1 i;have f:O.reverse.Nodup:=List.pairwise_reverse.2 (d.imp Ne.symm);have h:Dl O x=k:=by
  have g:x∈O:=by rw[<-m7,<-e];exact nG a
  have c:=Ic g;obtain⟨l,b⟩:=i8.1 c;exact(List.getElem_inj f).1 (b.trans e.symm)
 unfold Mf;rw[l8 a,e];by_cases q:j=x
 . subst q;rw[lZ sP,lZ rfl,h]
 rw[lS q];have:(O.reverse.take k++[x]).contains j=(O.reverse.take k).contains j:=by simp[q]
 rw[this]
theorem WT:(Tryz.prog.info? 3).map (λi=>(i.zero,i.size,i.bytes))=K (K (iZ 0),1,8):=kR
structure PC(w u:Y)(n X gp:Nat)(Vb Vo:J)(O:List Nat)(k:Nat):Prop where
 ie:AA u X #[iZ 0,iZ 0,Vb,Vo,sN,sN] 84
 place:Ab u w 3 1 (sG gp n n) n (iv (Mf O k) n)
 gY:GE u w Vo (O.reverse.take k)
 ej:Ah w w u
 lt: ↑w<=X
theorem PC.a7{e:Y}{d:Nat}(h:PC w u n X d b c O k)(a:Ah u u e):PC w e n X d b c O k:=⟨h.ie.a7 a,Aw h.place a lR,h.gY.a7 a,Ar h.ej lR a,h.lt⟩
structure PD(w u:Y)(n X gp:Nat)(Vb Vo:J)(O:List Nat)(k:Nat):Prop where
 ie:AA u X #[iZ 0,iZ 0,Vb,Vo,sN,sN] 84
 place:Ab u w 3 1 (sG gp n n) n (iv (Mf O (k+1)) n)
 gY:GE u w Vo (O.reverse.take k)
 ej:Ah w w u
 lt: ↑w<=X
theorem PD.a7{e:Y}{d:Nat}(h:PD w u n X d b c O k)(a:Ah u u e):PD w e n X d b c O k:=⟨h.ie.a7 a,Aw h.place a lR,h.gY.a7 a,Ar h.ej lR a,h.lt⟩
theorem Gg{b:Nat}{a:Array J}{xs:List J}(c:AA w b a t)(h:Ab w base e k s n xs)(d:e≠t):s.ownBlock≠K b:= λq=>Bt h c d b q rfl
theorem PC.set{a:Nat}(h:PC w u n X a b c O k)(d:O.Nodup)(f:O.reverse[k]?=K x):PD w (Aa u ⟨a,x,M⟩ k) n X a b c O k:=by refine⟨h.ie.other (λe=>Gg h.ie h.place dC (by rw[e];rfl)) _,?_,BT h.gY h.place dC _ _,h.ej.setCell (AD h.place).1 _,h.lt⟩;have:=(h.place.stored x k).1;rw[Vq (N1 d f n)]at this;exact this
theorem PD.al{c:Nat}{a:J}(h:PD w u n X c b a O k):Ab u w 2 1 a (O.reverse.take k).length (nv (O.reverse.take k))/\(w:Nat)<=u.heap.size:=⟨h.gY,h.ej.size⟩
theorem PD.ir{b:Y}(h:PD w u n X g d f O k)(s:O.reverse[k]?=K x)(l:Ab b w 2 1 V' ((O.reverse.take k).length+1) (nv (O.reverse.take k)++[iZ (x:Int)]))(j:u.grownBy b f.ownBlock):AA b X #[iZ 0,iZ 0,d,f,sN,sN] 84/\PC w (Aa b ⟨X,3,M⟩ V') n X g d V' O (k+1):=by
 have c:=h.ie.grown j h.gY dC;have m:Ab b w 3 1 (sG g n n) n (iv (Mf O (k+1)) n):=B3 h.place j h.gY dC;have p:Ah w w b:=h.ej.grown j h.ej.size (λi q=>(h.gY.lt i q).1);refine⟨c,?_,lI m (a:=⟨X,3,M⟩) (Gg c m dC) _,?_,p.setCell h.lt _,h.lt⟩
 . have:=c.set 3 V';simpa using this
 obtain⟨r,e⟩:=i8.1 s;unfold GE;rw[l8 r,e,FQ,lG,lL];exact lI l (a:=⟨X,3,M⟩) (Gg c l dC) _
theorem OJ (G n L Q A P B u C F:Nat)(E:Nat->List Nat)(O:List Nat)(w:Y)(hn:n<=1024)(hP:DZ E n (Dl O))(hO: ↑O=n)(aS:O.Nodup)(aE:∀x,x∈O↔x<n)(bf:∀b,(BC E n b).length<=4096)
 (bH:n<=u) (h:AA w G #[sG L n Q,sG A n P,sG B n u,sG C n F,sN] 196) (hF:Gj w A 0 n (BC E n)) (aT:∀k x:Nat,O.reverse[k]?=K x->w ⟨B,k,M⟩=K ↑(x:Int)) (aU:∀x,x<n->w ⟨C,x,M⟩=K ↑(Dl O x:Int))
 (aq:L≠G/\A≠G/\B≠G/\C≠G/\∀b a c,b<n->w ⟨A,b,M⟩=K (Z (K a) (BC E n b).length c)->a.block≠G):
 Ai Ap 116 #[.pointer G] w λe w'=>e=Al (Ao #[])/\∃t I,DW w w' G n #[sG L n Q,sG A n P,sG B n u,sG C n F] t I/\Pz E n (Dl O) I:=by
 obtain⟨K0,aR⟩:=Ui E n;obtain⟨D,bF,hK⟩:∃D,1<=D/\∀e,e<n->∀x,x<n->Ef E (· ≠e) 0 x->Gf E (· ≠e) 0 D x:=⟨K0+1,oM, λe he x g hr=>(aR e he x g hr).mono oM⟩
 have H:=Av (d5 h (d5 hF (d5 aT (d5 aU aq))));have r:=Av (d5 hP (d5 aS (d5 aE (d5 bf (d5 hK ((λx g=>by have:=Yq ((aE x).2 g);omega):(∀x,x<n->Dl O x<n)))))));have bq:=hP.pos;have aQ:=h.lt;clear h hF aT aU aq hP aS aE bf hK aR;have c0:(Ac w (Ak #[iZ (-1)] 2)) G=K (sG L n Q):=(H.1.a7 (Aq _ _)).cell 0;go_enter func116,ntmps116;go_wp2_with fail;refine(SF w n _ bq hn ((AA.new w #[iZ (-1)] 2).cell 0)).mono ?_;rintro e u1 ⟨t,rfl,aH,b1⟩;rw[YE]at aH;have bA:=Aq w (Ak #[iZ (-1)] 2);have k1:=(H.1.a7 bA).a7 b1;have d4:u1 ⟨G,4,M⟩=K sN:=k1.cell 4;have z4:=k1.frozen 4;have aI:Ae (DW w (Aa u1 ⟨G,4,M⟩ (sG t n n)) G n #[sG L n Q,sG A n P,sG B n u,sG C n F] t (λ_=> -1)):=by
  have aF:Ah w w u1:=Ar bA lR b1;have bg:=Bb aH (b:=w) bA.size;have R:=(AD bg).1;refine⟨⟨_,_,_,_,rfl,?_⟩,lI bg (a:=⟨G,4,M⟩) (by simp[Value.ownBlock];omega) _, λk hk aq=> ?_,(aF.mono (o7 aQ)).setCell lR _,by rw[mc];exact aF.size,aQ⟩
  . have:=k1.set 4 (sG t n n);simpa using this
  rw[mS u1 _ k _ aq];exact aF.block k hk
 clear aH b1 bA k1 c0;have am:Ae (Kr E n (Dl O) 0 1 (λ_=> -1)):=⟨Jl.start (λ_=>rfl),MO.start r.1 (λ_=>rfl), λx g hl=>by
  by_cases e:x=0
  . exact .inl e
  have:=r.1.gZ x g e;omega,.inl rfl,rfl⟩
 go_wp2;go_loopg [2] (D+2) (λm v wr=>∃(s:Bool) (I:Nat->Int) (k:Nat),v=An s/\Ae (DW w wr G n #[sG L n Q,sG A n P,sG B n u,sG C n F] t I)/\((s=true/\m+k=D+2/\k<=D/\Ae (Kr E n (Dl O) k 1 I))\/(s=false/\Ae (Pz E n (Dl O) I))))
 case atStart=>exact⟨true, λ_=> -1,0,rfl,aI,.inl ⟨rfl,rfl,oM,am⟩⟩
 clear aI am d4 z4;obtain⟨s,I0,k,rfl,HD,bi⟩:=hrel;rcases bi with⟨rfl,hm,bI,am⟩|⟨rfl,au⟩
 . obtain ⟨w0,br⟩:∃W,W=wr:=⟨_,rfl⟩;subst br;(have o2:w0 ⟨G,2,M⟩=K (sG B n u):=by obtain⟨x0,x1,x2,x3,e,kk⟩:=HD.ie;simp only[Array.mk.injEq,oN,nU]at e;obtain⟨rfl,rfl,rfl,rfl⟩:=e;exact kk.cell 2);(go_upto_region 4 with fail);go_cut [21,22,23]from 17 to 22 (λsv lv iv wx=>∃a c,sv=Z a (n-1) c/\(1<n->a=K ⟨B,1,M⟩)/\lv=iZ ((n-1:Nat):Int)/\iv=iZ 0/\wx=w0)
   case first=>
    by_cases aG:u=1
    . subst aG;obtain rfl:n=1:=oM;go_wp2;go_meet;exact⟨_,_,rfl, λq=>oM,rfl,rfl,rfl⟩
    have aW:1<u:=oM;go_wp2;go_meet;exact⟨_,_,rfl, λq=>rfl,by go_num,rfl,rfl⟩
   case rest=>
    obtain⟨bx,bB,rfl,ha,rfl,rfl,aj⟩:=hcut;rw[aj];clear aj o2;have aJ:Ae (∀(U:Y) (f:Nat->Int),DW w U G n #[sG L n Q,sG A n P,sG B n u,sG C n F] t f->GI U G n C F t n (Dl O) f/\U ⟨G,1,M⟩=K (sG A n P)):= λU f hU=>by obtain⟨x0,x1,x2,x3,e,kk⟩:=hU.ie;simp only[Array.mk.injEq,oN,nU]at e;obtain⟨rfl,rfl,rfl,rfl⟩:=e;refine⟨⟨kk.cell 3,kk.cell 4, λx g=>hU.cell (H.2.2.2.1 x g) H.2.2.2.2.2.2.2.1, λx g=> ?_⟩,kk.cell 1⟩;have:=hU.row.cellAt x oM;rw[Rr _ _ _ g]at this;exact this
    go_wp2;go_loopw [2,23] (λv i wr=>∃(s:Bool) (f:Nat->Int) (j:Nat),v=An s/\i=iZ (j:Int)/\j+1<=n/\Ae (DW w wr G n #[sG L n Q,sG A n P,sG B n u,sG C n F] t f/\Kr E n (Dl O) k (j+1) f/\(s=false->f=I0/\∀b,b<n->b≠0->Dl O b<j+1->Bj n f (BC E n b) (f b))/\(D<=k->s=false))) (λ_ i _=>n-(intOf i).toNat)
    (case atStart=>exact⟨false,I0,0,rfl,rfl,oM,HD,am, λ_=>⟨rfl, λb N X hl=>by have:=r.1.gZ b N X;omega⟩, λ_=>rfl⟩);obtain⟨s,f,j,rfl,rfl,hj,l⟩:=hrel;by_cases bJ:j<n-1
    . have bp:(j:Int)<((n-1:Nat):Int):=oM;obtain rfl:=ha oM;obtain⟨b,N⟩:∃b,O.reverse[j+1]?=K b:=⟨_,an (by rw[mv];omega)⟩;have ao:b∈O:=m7.1 (lA N);have ae:b<n:=(r.2.2.1 b).1 ao;have bG:(b:Int)<(n:Int):=oM;(have aZ:Dl O b=j+1:=by have h1:=Ic ao;have hd:O.reverse.Nodup:=List.pairwise_reverse.2 (r.2.1.imp Ne.symm);obtain⟨l1,e1⟩:=i8.1 h1;obtain⟨l2,e2⟩:=i8.1 N;exact(List.getElem_inj hd).1 (e1.trans e2.symm));(have X:b≠0:= λq=>by have:=r.1.zero;rw[q]at aZ;omega);have ob:=l.1.cell (H.2.2.1 (j+1) b N) H.2.2.2.2.2.2.1;rw[Nat.add_comm]at ob;obtain⟨R,f1⟩:=aJ.o _ _ l.1;obtain⟨af,cf,e0,e1⟩:=H.2.1 b ae;rw[mQ]at e0;(have aP:Ae (Jo wr (Z af (BC E n b).length cf) (BC E n b)):=by refine⟨e1.1,e1.2.imp id ?_⟩;rintro⟨g',o',c',q1,q2⟩;refine⟨g',o',c',q1, λjj v hv=>l.1.cell (q2 jj v hv) ?_⟩;simp only[lB,mB]at q1;exact H.2.2.2.2.2.2.2.2 b ⟨g',o',M⟩ cf ae (by rw[e0,q1.1]));have f2:=l.1.cell e0 H.2.2.2.2.2.1;have aM:=Av R;have HB:=Av (d5 ao aZ);clear e0 e1 R N ao;go_wp2_with fail;refine(OG G n C F t n (Dl O) f _ (BC E n b) wr hn l.2.1.iL.tree r.1.zero r.1.inj (λp hp=>((CK E n b p).1 hp).1) (r.2.2.2.1 b) aP aM).mono ?_;rintro e u5 ⟨z,rfl,hz,b5⟩;have aw:=Av (l.1.a7 b5);obtain⟨R,bC⟩:=aJ.o _ _ aw;have i4:=R.i;have ib:=R.ic b ae;have iz:=aw.row.frozenAt b;(obtain⟨T,aA⟩:∃T:Nat->Int,∀y,T y=if y=b then z else f y:=⟨_, λy=>rfl⟩);have HN:Ae (DW w (Aa u5 ⟨t,b,M⟩ z) G n #[sG L n Q,sG A n P,sG B n u,sG C n F] t T/\Kr E n (Dl O) k (j+1+1) T/\(z=f b->T=f)/\Bj n f (BC E n b) z/\(D<=k->z=f b)):=by
       refine⟨aw.set b z aA,l.2.1.step r.1 ae X HB.2 hz aA, λq=> ?_,hz, λaY=> ?_⟩
       . (funext y);rw[aA y];by_cases e:y=b
         . rw[lZ e,q,e]
         rw[lS e]
       have V:∀x,x<n->Kn f x:=l.2.1.all.resolve_left oM;refine WG r.1 l.2.1.iL V (λx g d hd hr=> ?_) ae X (Hs E n b) hz;have bj:=(hd.jd l.2.1.iL.tree g).2.2;exact(l.2.1.kE x g (V x g) d hd).1 ((r.2.2.2.2.1 d bj x g hr).mono aY)
      clear R hz b5 aM aP f1 f2 ob;(go_upto_region 8 with fail);go_cut [2]from 36 to 47 (λc wx=>(∃c':Bool,c=An c'/\(c'=false->s=false/\z=f b)/\(s=false->z=f b->c'=false))/\wx=u5)
      case first=>
       cases s
       . by_cases ah:z=f b
         . (have bu:(z != f b)=false:=by simp[ah]);have HZ:=Av ah;clear ah;go_wp2;go_meet;exact⟨⟨_,rfl, λ_=>⟨trivial,HZ⟩, λ_ _=>rfl⟩,rfl⟩
         (have bu:(z != f b)=true:=by simp[ah]);have HZ:=Av ah;clear ah;go_wp2;go_meet;exact⟨⟨_,rfl,(λq=>(by cases q)),(λ_ q=>absurd q HZ.o)⟩,rfl⟩
       go_wp2;go_meet;exact⟨⟨_,rfl,(λq=>(by cases q)),(λq=>(by cases q))⟩,rfl⟩
      case rest=>
       obtain⟨⟨c',rfl,aG,aW⟩,aj⟩:=hcut;rw[aj];clear aj;go_wp2;go_roundw;case rel=>
        refine⟨c',T,j+1,rfl,by go_num,oM,HN.1,HN.2.1, λq=> ?_, λq=>aW (l.2.2.2 q) (HN.2.2.2.2 q)⟩;obtain⟨q1,q2⟩:=aG q;obtain⟨r1,r2⟩:=l.2.2.1 q1;have r3:=HN.2.2.1 q2;refine⟨r3.trans r1, λy hy bt hl=> ?_⟩;rw[r3];by_cases e:y=b
        . rw[e,<-q2];exact HN.2.2.2.1
        refine r2 y hy bt ?_;have h1:=r.1.inj y b hy ae;have h2:=HB.2;omega
       case measure=>exact oI
    have aX:j+1=n:=oM;have bp:¬(j:Int)<((n-1:Nat):Int):=oM;have S:Ae (Kr E n (Dl O) (k+1) 1 f/\∀x,x<n->Kn f x):=by have h0:=l.2.1;rw[aX]at h0;(have V:∀x,x<n->Kn f x:= λx g=>h0.kn x g (r.2.2.2.2.2 x g));exact⟨⟨h0.iL,h0.kE.pass r.1 r.2.2.2.2.2, λx g _=>V x g,.inr V,h0.z⟩,V⟩
    cases s
    . (have au:Ae (Pz E n (Dl O) f):=by obtain⟨_,q2⟩:=l.2.2.1 rfl;refine⟨S.1.iL,S.2, λd x g=>WH r.1 S.1.iL S.2 (BC E n) (λb _=>Hs E n b) (λb N X=>q2 b N X (by rw[aX];exact r.2.2.2.2.2 b N)) g,S.1.z⟩);go_wp2;go_roundg 0;(case measure=>omega);exact⟨false,f,0,rfl,l.1,.inr ⟨rfl,au⟩⟩
    . have aY:k<D:=by
       by_cases q:D<=k
       . have:=l.2.2.2 q;cases this
       omega
      go_wp2;go_roundg (gk-1);(case measure=>omega);exact⟨true,f,k+1,rfl,l.1,.inl ⟨rfl,oM,oM,S.1⟩⟩
 go_wp2;go_end0;exact⟨rfl,t,I0,HD,au⟩
structure PF(w6 u:Y)(X:Nat)(Vb Vo Vi:J)(Is:List Int)(Vl:J)(ys:List (ML×J×J)):Prop where
 ie:AA u X #[iZ 0,iZ 0,Vb,Vo,Vi,Vl] 84
 io:Cl u w6 ((Vi,Is)::EZ ys)
 iP:Ab u w6 92 3 Vl ys (Ad BS ys)
 fx:∀k,k< ↑w6->k≠X->u.heap[k]?=w6.heap[k]?
 size:(w6:Nat)<= ↑u
 ej:Ah X w6 u
 lt:X< ↑w6
theorem PF.a7{i:Y}{e:J}{b:List Int}(h:PF j u X c f d b e l)(a:Ah u u i):PF j i X c f d b e l:=⟨h.ie.a7 a,h.io.iQ a,Aw h.iP a lR, λk g m=>by rw[a.block k (mT g h.size)];exact h.fx k g m,lQ h.size a.size,h.ej.trans (a.mono (by have:=h.lt;have:=h.size;omega)),h.lt⟩
theorem PF.cell{c:Y}{e i g:J}{d:List Int}{k:List (ML×J×J)}(h:PF c u X e i f d g k){a:Addr}{x:J}(b:c a=K x)(j:a.block≠X):u a=K x:=by have:=h.fx a.block (g8 b) j;unfold World.cell? at*;rw[this];exact b
theorem PF.ig{c:Y}{q r m:J}{b:List Int}{z:Int}(h:PF j u X q r f b m l)(y:Ab c j 2 1 (sG g (b.length+1) cap) (b.length+1) (Ad As b++[iZ z]))(d:u.grownBy c f.ownBlock)(w:f.ownBlock=K g\/g= ↑u):AA c X #[iZ 0,iZ 0,q,r,f,m] 84/\PF j (Aa c ⟨X,4,M⟩ (sG g (b.length+1) cap)) X q r (sG g (b.length+1) cap) (b++[z]) m l:=by
 have p:=h.io.own (f,b) (mV ..);have n:=h.ie.grown d p dC;have v:Ab c j 92 3 m l (Ad BS l):=B3 h.iP d p dC;have B:Cl c j ((sG g (b.length+1) cap,b++[z])::EZ l):=by have:=Cl.grow (A:=[]) (l':=b++[z]) (V':=sG g (b.length+1) cap) (g:=g) h.io (by rw[lG,lL,mH];exact y) rfl d (w.imp id λe=>oM);simpa using this
 refine⟨n,?_,B.other n dC 4 _,lI v (a:=⟨X,4,M⟩) (Gg n v dC) _, λk s t=> ?_,?_,?_,h.lt⟩
 . have:=n.set 4 (sG g (b.length+1) cap);simpa using this
 . rw[mS c _ k _ t,d.block k (mT s h.size) (λe=>by have:=(p.lt k e.symm).1;omega)];exact h.fx k s t
 . rw[mc];exact lQ h.size d.size
 exact(h.ej.grown d (by have:=h.lt;have:=h.size;omega) (λi x=>by have:=(p.lt i x).1;have:=h.lt;omega)).setCell lR _
theorem PF.loop{r p:Y}{w y l x:J}{s:List Int}{c:List (ML×J×J)}{m:ML}(h:PF r u X w y l s x c)(z:Ah u u p)(C:Ab p u 2 1 d m.back (Ad As m.back))(D:Ab p u 2 1 f m.a8 (Ad As m.a8))(t:∀q,d.ownBlock=K q->f.ownBlock≠K q)(B:Ab j r 92 3 (sG g (c.length+1) cap) (c.length+1) (Ad BS c++[iZ m.head,d,f]))(n:p.grownBy j x.ownBlock):AA j X #[iZ 0,iZ 0,w,y,l,x] 84/\PF r (Aa j ⟨X,5,M⟩ (sG g (c.length+1) cap)) X w y l s (sG g (c.length+1) cap) (c++[(m,d,f)]):=by
 have b:=h.a7 z;have v:=b.ie.grown n b.iP dC;have G:Cl p r ((l,s)::EZ (c++[(m,d,f)])):=by have:=h.io.kS z C D t h.size;simpa[EZ]using this
 have F:Cl j r ((l,s)::EZ (c++[(m,d,f)])):=G.iG n b.iP dC;refine⟨v,?_,F.other v dC 5 _,?_, λk A t=> ?_,?_,?_,h.lt⟩
 . have:=v.set 5 (sG g (c.length+1) cap);simpa using this
 . rw[lG,lL,mH];exact lI B (a:=⟨X,5,M⟩) (Gg v B dC) _
 . rw[mS j _ k _ t,n.block k (mT A b.size) (λe=>by have:=(b.iP.lt k e.symm).1;omega)];exact b.fx k A t
 . rw[mc];exact lQ b.size n.size
 exact(b.ej.grown n (by have:=h.lt;have:=b.size;omega) (λi E=>by have:=(b.iP.lt i E).1;have:=h.lt;omega)).setCell lR _
theorem Fg(E:Nat->List Nat)(D L:Nat->Nat->Bool)(n b:Nat):BI E D L n (b+1)=BI E D L n b++(if AK E D n b=[]then[]else[⟨(b:Int),ints (AK E D n b),ints ((List.range n).filter (L b))⟩]):=by
 unfold BI;rw[nW,List.filterMap_append];by_cases h:AK E D n b=[]
 . simp[h]
 simp[h]
theorem D9(s:J)(xs:List Int)(v:Int)(w:Y)(A:xs.length<=1048576)(h:Rd w 1 s xs (Ad As xs)):
 Ai Ap 46 #[s,v] w λe C=>AM e (v∈xs)/\C=w:=by
 have d:=Av h;obtain⟨D,c1,rfl⟩:=h.bW;clear h;generalize q:xs.length=n at A d⊢;have f:=Av q;clear q;go_enter func46,ntmps46;go_wp2;go_loopw [5] (λi wr=>∃k:Nat,k<=n/\i=Ag Af k/\Ae (∀j,j<k->¬xs[j]?=K v)/\wr=w) (λi _=>n-(intOf i).toNat)
 case atStart=>exact⟨0,oM,rfl, λj a=>oM,rfl⟩
 obtain⟨k,F,rfl,l,rfl⟩:=hrel;by_cases y:k<n
 . obtain⟨x,b⟩:∃x,xs[k]?=K x:=⟨_,an (by rw[f];exact y)⟩;rcases d.2 with⟨E,_⟩|⟨g,o,c,p,r⟩
   . omega
   simp only[lB,mB]at p;obtain⟨rfl,rfl⟩:=p;have B:=Rd.elem Ay r k x b 0 _ rfl;rw[mO,lJ]at B;have m:=Av b;clear r b;by_cases t:x=v
   . subst t;go_wp2;go_ret;exact⟨.iu (lA m),rfl⟩
   go_wp2;go_roundw;case rel=>
    refine⟨k+1,oM,by go_num, λj a=> ?_,trivial⟩;by_cases e:j=k
    . subst e;rw[m];exact λe=>t (lP e)
    exact l.o j oM
   case measure=>exact oI
 have u:k=n:=oM;subst u;go_wp2;go_ret;refine⟨.no λz=> ?_,rfl⟩;obtain⟨j,a⟩:=mJ z;exact l.o j (by have:=(i8.1 a).1;rw[f]at this;exact this) a
def XN(ts:List MT)(a b n:Int):Prop:=(n=-1/\Cj ts a b=M)\/∃(k:Nat) (c:MT),n=(k:Int)/\ts[k]?=K c/\Cj ts a b=K c
theorem LY(v:VP)(p:MP)(g l:Int)(w:Y)(R:p.small)(h:Dm w v p):
 Ai Ap 76 #[Am #[v.r,v.k,v.f,v.t],g,l] w λe X=>(∃n,e=Al (Ag Af n)/\XN p.e8 g l n)/\Ah w w X:=by
 obtain⟨E,D,C,W⟩:=v;have N:=Av h.e8;have V:=R.e8;obtain⟨y,c1,z⟩:∃a c,W=Z a p.e8 c:=h.e8.bW;subst z;clear h R;have d:Ae (Ah w w (Ac w (Ak #[E,D,C,Z y p.e8 c1] 37))/\En (Ac w (Ak #[E,D,C,Z y p.e8 c1] 37)) w E D C (Z y p.e8 c1)):=⟨Aq _ _,En.new _ _ _ _ _ _⟩
 generalize Q:p.e8.length=n at V N d⊢;have O:=Av Q;clear Q;go_enter func76,ntmps76;go_wp2;go_loopw [7] (λi wr=>∃k:Nat,k<=n/\i=Ag Af k/\Ae (∀j c,j<k->p.e8[j]?=K c->¬(c.func=g/\c.head=l))/\Ae (Ah w w wr/\En wr w E D C (Z y n c1))) (λi _=>n-(intOf i).toNat)
 case atStart=>exact⟨0,oM,rfl, λj c m=>oM,d⟩
 clear d;obtain⟨k,hk,rfl,F,d⟩:=hrel;obtain⟨p0,p1,p2,p3⟩:=d.2;by_cases U:k<n
 . obtain⟨x,A⟩:∃x,p.e8[k]?=K x:=⟨_,an (by rw[O];exact U)⟩;rcases N.2 with⟨e0,_⟩|⟨b,o,c,z,H⟩
   . omega
   simp only[lB,mB]at z;obtain⟨rfl,rfl⟩:=z;have I:=Rd.elem MT.dr H k x A 0 _ rfl;have L:=Rd.elem MT.dr H k x A 1 _ rfl;rw[<-d.1.cell (g8 I),lJ]at I;rw[<-d.1.cell (g8 L)]at L;have G:=Av A;clear H A;by_cases q:x.func=g/\x.head=l
   . obtain⟨u,B⟩:=q;have S:=Av (Kx G ⟨u,B⟩ λj c m s=>F.o j c m s);rw[u]at I;rw[B]at L;clear u B;go_wp2;go_ret;exact⟨⟨_,rfl,.inr ⟨k,x,rfl,G,S⟩⟩,d.1⟩
   have P:Ae (∀j c,j<k+1->p.e8[j]?=K c->¬(c.func=g/\c.head=l)):= λj c m s=>by
    by_cases e:j=k
    . subst e;rw[G]at s;(cases s);exact q
    exact F.o j c oM s
   by_cases u:x.func=g
   . (have B:¬x.head=l:= λe=>q ⟨u,e⟩);clear q;go_wp2;go_roundw;(case rel=>exact⟨k+1,oM,by go_num,P,d⟩);exact oI
   clear q;go_wp2;go_roundw;(case rel=>exact⟨k+1,oM,by go_num,P,d⟩);exact oI
 have T:k=n:=oM;subst T;go_wp2;go_ret;exact⟨⟨_,rfl,.inl ⟨by go_num,Kw λj c m=>F.o j c (by have:=(i8.1 m).1;rw[O]at this;exact this) m⟩⟩,d.1⟩
end Go.Proofs.YtadcneiiokbofaaGreat
