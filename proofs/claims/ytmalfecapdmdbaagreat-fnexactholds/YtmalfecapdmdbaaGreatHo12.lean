import Derived.Test.YtmalfecapdmdbaaGreatHo10
namespace Go.Proofs.YtmalfecapdmdbaaGreat
open Go.ChangeShapes Go.WideShapes Go.ChangeAt Go.RowKit Go.Proofs.Tryz
set_option linter.unusedVariables false
open Go.Value renaming slice → Z,bool → An,tuple → Ao,agg → Am
open Option renaming some → K,none → M
open Go renaming World → Y,Calls → Ai,Value → J,TypeId → Aj
open Go.RowKit renaming Hid → Ae,Below → Ah
open Go.Obj renaming cells → Ak
open Go.Ending renaming returned → Al
open Go.Proofs.Tryz renaming prog → Ap
open Go.World renaming setCell → Aa,alloc → Ac,ownsRow → Ab
open Go.IntKind renaming i64 → Af
open List renaming flatMap → Ad
set_option maxHeartbeats 8000000
set_option maxRecDepth 100000
variable {w u:Y}{xs:List MI}{c cl b a e n:Nat}{F:List (MB×J)}{t:Aj}
theorem N6 (G n L Q A P B u C F:Nat)(E:Nat->List Nat)(O:List Nat)(w:Y)(hn:n<=1024)(hP:DJ E n (Dp O))(hO: ↑O=n)(aS:O.Nodup)(aE:∀x,x∈O↔x<n)(b7:∀b,(Bs E n b).length<=4096)
 (bF:n<=u) (h:AC w G #[sG L n Q,sG A n P,sG B n u,sG C n F,sN] 191) (hF:FW w A 0 n (Bs E n)) (aT:∀k x:Nat,O.reverse[k]?=K x->w ⟨B,k,M⟩=K ↑(x:Int)) (aU:∀x,x<n->w ⟨C,x,M⟩=K ↑(Dp O x:Int))
 (aq:L≠G/\A≠G/\B≠G/\C≠G/\∀b a c,b<n->w ⟨A,b,M⟩=K (Z (K a) (Bs E n b).length c)->a.block≠G):
 Ai Ap 107 #[.pointer G] w λe w'=>e=Al (Ao #[])/\∃t I,DW w w' G n #[sG L n Q,sG A n P,sG B n u,sG C n F] t I/\OO E n (Dp O) I:=by
 obtain⟨K0,aR⟩:=Tz E n;obtain⟨D,bB,hK⟩:∃D,1<=D/\∀e,e<n->∀x,x<n->DR E (· ≠e) 0 x->FM E (· ≠e) 0 D x:=⟨K0+1,oM, λe he x g hr=>(aR e he x g hr).mono oM⟩
 have H:=Av (d5 h (d5 hF (d5 aT (d5 aU aq))));have r:=Av (d5 hP (d5 aS (d5 aE (d5 b7 (d5 hK ((λx g=>by have:=Xn ((aE x).2 g);omega):(∀x,x<n->Dp O x<n)))))));have bo:=hP.pos;have aQ:=h.lt;clear h hF aT aU aq hP aS aE b7 hK aR;have c0:(Ac w (Ak #[iZ (-1)] 2)) G=K (sG L n Q):=(H.1.a7 (Aq _ _)).cell 0;go_enter func107,ntmps107;go_wp2_with fail;refine(RO w n _ bo hn ((AC.new w #[iZ (-1)] 2).cell 0)).mono ?_;rintro e u1 ⟨t,rfl,aH,b1⟩;rw[XA]at aH;have bA:=Aq w (Ak #[iZ (-1)] 2);have k1:=(H.1.a7 bA).a7 b1;have d4:u1 ⟨G,4,M⟩=K sN:=k1.cell 4;have z4:=k1.frozen 4;have aI:Ae (DW w (Aa u1 ⟨G,4,M⟩ (sG t n n)) G n #[sG L n Q,sG A n P,sG B n u,sG C n F] t (λ_=> -1)):=by
  have aF:Ah w w u1:=Ar bA lR b1;have bf:=Ba aH (b:=w) bA.size;have R:=(AD bf).1;refine⟨⟨_,_,_,_,rfl,?_⟩,kN bf (a:=⟨G,4,M⟩) (by simp[Value.ownBlock];omega) _, λk hk aq=> ?_,(aF.mono (nw aQ)).setCell lR _,by rw[lr];exact aF.size,aQ⟩
  . have:=k1.set 4 (sG t n n);simpa using this
  rw[lY u1 _ k _ aq];exact aF.block k hk
 clear aH b1 bA k1 c0;have am:Ae (JZ E n (Dp O) 0 1 (λ_=> -1)):=⟨IZ.start (λ_=>rfl),Ml.start r.1 (λ_=>rfl), λx g hl=>by
  by_cases e:x=0
  . exact .inl e
  have:=r.1.gH x g e;omega,.inl rfl,rfl⟩
 go_wp2;go_loopg [2] (D+2) (λm v wr=>∃(s:Bool) (I:Nat->Int) (k:Nat),v=An s/\Ae (DW w wr G n #[sG L n Q,sG A n P,sG B n u,sG C n F] t I)/\((s=true/\m+k=D+2/\k<=D/\Ae (JZ E n (Dp O) k 1 I))\/(s=false/\Ae (OO E n (Dp O) I))))
 case atStart=>exact⟨true, λ_=> -1,0,rfl,aI,.inl ⟨rfl,rfl,oM,am⟩⟩
 clear aI am d4 z4;obtain⟨s,I0,k,rfl,HD,bg⟩:=hrel;rcases bg with⟨rfl,hm,bG,am⟩|⟨rfl,au⟩
 . obtain ⟨w0,bp⟩:∃W,W=wr:=⟨_,rfl⟩;subst bp;(have o2:w0 ⟨G,2,M⟩=K (sG B n u):=by obtain⟨x0,x1,x2,x3,e,kk⟩:=HD.gK;simp only[Array.mk.injEq,nJ,mV]at e;obtain⟨rfl,rfl,rfl,rfl⟩:=e;exact kk.cell 2);(go_upto_region 4 with fail);go_cut [21,22,23]from 17 to 22 (λsv lv iv wx=>∃a c,sv=Z a (n-1) c/\(1<n->a=K ⟨B,1,M⟩)/\lv=iZ ((n-1:Nat):Int)/\iv=iZ 0/\wx=w0)
   case first=>
    by_cases aG:u=1
    . subst aG;obtain rfl:n=1:=oM;go_wp2;go_meet;exact⟨_,_,rfl, λq=>oM,rfl,rfl,rfl⟩
    have aW:1<u:=oM;go_wp2;go_meet;exact⟨_,_,rfl, λq=>rfl,by go_num,rfl,rfl⟩
   case rest=>
    obtain⟨bt,bu,rfl,ha,rfl,rfl,aj⟩:=hcut;rw[aj];clear aj o2;have aJ:Ae (∀(U:Y) (f:Nat->Int),DW w U G n #[sG L n Q,sG A n P,sG B n u,sG C n F] t f->GI U G n C F t n (Dp O) f/\U ⟨G,1,M⟩=K (sG A n P)):= λU f hU=>by obtain⟨x0,x1,x2,x3,e,kk⟩:=hU.gK;simp only[Array.mk.injEq,nJ,mV]at e;obtain⟨rfl,rfl,rfl,rfl⟩:=e;refine⟨⟨kk.cell 3,kk.cell 4, λx g=>hU.cell (H.2.2.2.1 x g) H.2.2.2.2.2.2.2.1, λx g=> ?_⟩,kk.cell 1⟩;have:=hU.row.cellAt x oM;rw[QH _ _ _ g]at this;exact this
    go_wp2;go_loopw [2,23] (λv i wr=>∃(s:Bool) (f:Nat->Int) (j:Nat),v=An s/\i=iZ (j:Int)/\j+1<=n/\Ae (DW w wr G n #[sG L n Q,sG A n P,sG B n u,sG C n F] t f/\JZ E n (Dp O) k (j+1) f/\(s=false->f=I0/\∀b,b<n->b≠0->Dp O b<j+1->Bf n f (Bs E n b) (f b))/\(D<=k->s=false))) (λ_ i _=>n-(intOf i).toNat)
    (case atStart=>exact⟨false,I0,0,rfl,rfl,oM,HD,am, λ_=>⟨rfl, λb N X hl=>by have:=r.1.gH b N X;omega⟩, λ_=>rfl⟩);obtain⟨s,f,j,rfl,rfl,hj,l⟩:=hrel;by_cases bH:j<n-1
    . have bj:(j:Int)<((n-1:Nat):Int):=oM;obtain rfl:=ha oM;obtain⟨b,N⟩:∃b,O.reverse[j+1]?=K b:=⟨_,an (by rw[mC];omega)⟩;have ao:b∈O:=mc.1 (i7 N);have ae:b<n:=(r.2.2.1 b).1 ao;have bC:(b:Int)<(n:Int):=oM;(have aZ:Dp O b=j+1:=by have h1:=IP ao;have hd:O.reverse.Nodup:=List.pairwise_reverse.2 (r.2.1.imp Ne.symm);obtain⟨l1,e1⟩:=i6.1 h1;obtain⟨l2,e2⟩:=i6.1 N;exact(List.getElem_inj hd).1 (e1.trans e2.symm));(have X:b≠0:= λq=>by have:=r.1.zero;rw[q]at aZ;omega);have ob:=l.1.cell (H.2.2.1 (j+1) b N) H.2.2.2.2.2.2.1;rw[Nat.add_comm]at ob;obtain⟨R,f1⟩:=aJ.o _ _ l.1;obtain⟨af,cf,e0,e1⟩:=H.2.1 b ae;rw[lM]at e0;(have aP:Ae (I5 wr (Z af (Bs E n b).length cf) (Bs E n b)):=by refine⟨e1.1,e1.2.imp id ?_⟩;rintro⟨g',o',c',q1,q2⟩;refine⟨g',o',c',q1, λjj v hv=>l.1.cell (q2 jj v hv) ?_⟩;simp only[i8,lB]at q1;exact H.2.2.2.2.2.2.2.2 b ⟨g',o',M⟩ cf ae (by rw[e0,q1.1]));have f2:=l.1.cell e0 H.2.2.2.2.2.1;have aM:=Av R;have HB:=Av (d5 ao aZ);clear e0 e1 R N ao;go_wp2_with fail;refine(N2 G n C F t n (Dp O) f _ (Bs E n b) wr hn l.2.1.iy.tree r.1.zero r.1.inj (λp hp=>((CK E n b p).1 hp).1) (r.2.2.2.1 b) aP aM).mono ?_;rintro e u5 ⟨z,rfl,hz,b5⟩;have aw:=Av (l.1.a7 b5);obtain⟨R,bx⟩:=aJ.o _ _ aw;have i4:=R.i;have ib:=R.ic b ae;have iz:=aw.row.frozenAt b;(obtain⟨T,aA⟩:∃T:Nat->Int,∀y,T y=if y=b then z else f y:=⟨_, λy=>rfl⟩);have HN:Ae (DW w (Aa u5 ⟨t,b,M⟩ z) G n #[sG L n Q,sG A n P,sG B n u,sG C n F] t T/\JZ E n (Dp O) k (j+1+1) T/\(z=f b->T=f)/\Bf n f (Bs E n b) z/\(D<=k->z=f b)):=by
       refine⟨aw.set b z aA,l.2.1.step r.1 ae X HB.2 hz aA, λq=> ?_,hz, λaY=> ?_⟩
       . (funext y);rw[aA y];by_cases e:y=b
         . rw[kZ e,q,e]
         rw[kP e]
       have V:∀x,x<n->Kn f x:=l.2.1.all.resolve_left oM;refine Vw r.1 l.2.1.iy V (λx g d hd hr=> ?_) ae X (Hb E n b) hz;have bi:=(hd.iO l.2.1.iy.tree g).2.2;exact(l.2.1.jV x g (V x g) d hd).1 ((r.2.2.2.2.1 d bi x g hr).mono aY)
      clear R hz b5 aM aP f1 f2 ob;(go_upto_region 8 with fail);go_cut [2]from 36 to 47 (λc wx=>(∃c':Bool,c=An c'/\(c'=false->s=false/\z=f b)/\(s=false->z=f b->c'=false))/\wx=u5)
      case first=>
       cases s
       . by_cases ah:z=f b
         . (have br:(z != f b)=false:=by simp[ah]);have HZ:=Av ah;clear ah;go_wp2;go_meet;exact⟨⟨_,rfl, λ_=>⟨trivial,HZ⟩, λ_ _=>rfl⟩,rfl⟩
         (have br:(z != f b)=true:=by simp[ah]);have HZ:=Av ah;clear ah;go_wp2;go_meet;exact⟨⟨_,rfl,(λq=>(by cases q)),(λ_ q=>absurd q HZ.o)⟩,rfl⟩
       go_wp2;go_meet;exact⟨⟨_,rfl,(λq=>(by cases q)),(λq=>(by cases q))⟩,rfl⟩
      case rest=>
       obtain⟨⟨c',rfl,aG,aW⟩,aj⟩:=hcut;rw[aj];clear aj;go_wp2;go_roundw;case rel=>
        refine⟨c',T,j+1,rfl,by go_num,oM,HN.1,HN.2.1, λq=> ?_, λq=>aW (l.2.2.2 q) (HN.2.2.2.2 q)⟩;obtain⟨q1,q2⟩:=aG q;obtain⟨r1,r2⟩:=l.2.2.1 q1;have r3:=HN.2.2.1 q2;refine⟨r3.trans r1, λy hy bq hl=> ?_⟩;rw[r3];by_cases e:y=b
        . rw[e,<-q2];exact HN.2.2.2.1
        refine r2 y hy bq ?_;have h1:=r.1.inj y b hy ae;have h2:=HB.2;omega
       case measure=>exact oI
    have aX:j+1=n:=oM;have bj:¬(j:Int)<((n-1:Nat):Int):=oM;have S:Ae (JZ E n (Dp O) (k+1) 1 f/\∀x,x<n->Kn f x):=by have h0:=l.2.1;rw[aX]at h0;(have V:∀x,x<n->Kn f x:= λx g=>h0.kn x g (r.2.2.2.2.2 x g));exact⟨⟨h0.iy,h0.jV.pass r.1 r.2.2.2.2.2, λx g _=>V x g,.inr V,h0.z⟩,V⟩
    cases s
    . (have au:Ae (OO E n (Dp O) f):=by obtain⟨_,q2⟩:=l.2.2.1 rfl;refine⟨S.1.iy,S.2, λd x g=>Vx r.1 S.1.iy S.2 (Bs E n) (λb _=>Hb E n b) (λb N X=>q2 b N X (by rw[aX];exact r.2.2.2.2.2 b N)) g,S.1.z⟩);go_wp2;go_roundg 0;(case measure=>omega);exact⟨false,f,0,rfl,l.1,.inr ⟨rfl,au⟩⟩
    . have aY:k<D:=by
       by_cases q:D<=k
       . have:=l.2.2.2 q;cases this
       omega
      go_wp2;go_roundg (gk-1);(case measure=>omega);exact⟨true,f,k+1,rfl,l.1,.inl ⟨rfl,oM,oM,S.1⟩⟩
 go_wp2;go_end0;exact⟨rfl,t,I0,HD,au⟩
def GO(xs:List MI)(p:Int):Int:=((CS xs xs).idxOf p.toNat:Int)
def Ku(xs:List MI)(x:MB×J):MB×J:=(⟨x.1.gH,x.1.last,x.1.next.map (GO xs)⟩,x.2)
theorem T6(xs:List MI)(c:A3 xs)(D:List (MB×J))(h:D.map Prod.fst=Kx xs):(D.map (Ku xs)).map Prod.fst=AM xs:=by
 have g:(D.map (Ku xs)).map Prod.fst=(D.map Prod.fst).map λb=>⟨b.gH,b.last,b.next.map (GO xs)⟩:=by rw[nE,nE];rfl
 rw[g,h];unfold Kx AM;rw[nE];apply nF;intro m d;obtain⟨b,i⟩:=lH d;obtain⟨e,a,j⟩:=Jg xs xs c.1 m d;obtain⟨x,f⟩:∃x,xs[e]?=K x:=⟨_,an j⟩;have k:=Nd xs b e x m c i a f;simp only[Function.comp,Tp,FK];rw[a,kA,kL,f];simp only[nL];rw[k];rfl
theorem PS(xs:List MI)(j:A3 xs)(m:MB)(k:m∈Kx xs)(p:Int)(d:p∈m.next):0<=p/\p.toNat∈CS xs xs:=by
 unfold Kx at k;obtain⟨n,l,rfl⟩:=lA.1 k;obtain⟨b,g⟩:=lH l;obtain⟨e,h,i⟩:=Jg xs xs j.1 n l;obtain⟨x,f⟩:∃x,xs[e]?=K x:=⟨_,an i⟩;simp only[Tp]at d;rw[h,kA,kL,f]at d;simp only[nL,AY]at d;rcases kO.1 d with a|a
 . split at a
   . rename_i q;simp only[kY,lG,mS]at a;subst a;rw[Cp]at g;refine⟨oM,?_⟩;rw[kA];exact K4 _ _ _ _ _ g h q.2
   cases a
 split at a
 . rename_i q;simp only[kY,lG,mS]at a;subst a;obtain⟨c0,c1⟩:=j.2.2 e x f q.1;have c3:(x.c.toNat:Int)=x.c:=n9 c0;exact⟨c0,(C6 _ _ _).2 ⟨oM,Ly xs _ e _ x i f (by simp[F7,q.1,c3])⟩⟩
 cases a
theorem VH(L:List Nat)(q:Nat):(L.map Int.ofNat).idxOf (q:Int)=L.idxOf q:=by
 induction L with
 |nil=>rfl
 | cons y r c=>
   rw[mX,oF,oF,c];by_cases h:y=q
   . subst h;simp
   (have a:(Int.ofNat y==(q:Int))=false:=by rw[nX];intro e;exact h (by have d:(y:Int)=(q:Int):=e;omega));(have b:(y==q)=false:=by simpa using h);rw[a,b]
structure JW(w u:Y)(xs:List MI)(gl cl bl:Nat)(F:List (MB×J)):Prop where
 row:Ab u w 126 3 (sG bl (CS xs xs).length (CS xs xs).length) (CS xs xs).length (Ad BN F)
 gV:CI u w ((sG gl (CS xs xs).length cl,(CS xs xs).map Int.ofNat)::Dx F)
 e8:Ah w w u
theorem JW.a7{d:Y}(h:JW w u xs c cl b F)(a:Ah u u d):JW w d xs c cl b F:=⟨Aw h.row a lR,h.gV.a7 a,Ar h.e8 lR a⟩
theorem JW.drew(h:JW w u xs b cl a F)(k:Nat):JW w (u.drewN k) xs b cl a F:=⟨⟨h.row.1,h.row.2⟩,⟨λr c=>⟨(h.gV.own r c).1,(h.gV.own r c).2⟩,h.gV.sep⟩,⟨h.e8.os,h.e8.tape,h.e8.output,h.e8.size,h.e8.block⟩⟩
theorem JW.set{j:Nat}{E G:List (MB×J)}{f l:Int}{a g:List Int}{i:Nat}{z:Int}(h:JW w u xs e cl j (E++(⟨f,l,a⟩,sG b n c)::G))(p: ↑a=n)(r:(Ad As a).set i (iZ z)=Ad As g)(q:g.length= ↑a):JW w (Aa u ⟨b,i,M⟩ (iZ z)) xs e cl j (E++(⟨f,l,g⟩,sG b n c)::G):=by
 have d:=h.gV.own (sG b n c,a) (by simp[Dx]);simp only[]at d;rw[p]at d;have k:=(d.stored i (iZ z)).1;rw[r]at k;refine⟨?_,?_,h.e8.setCell (AD d).1 _⟩
 . have:=BE h.row d dC i (iZ z);simpa[BN]using this
 have m:=h.gV;rw[show(((sG e (CS xs xs).length cl,(CS xs xs).map Int.ofNat):J×List Int)::Dx (E++((⟨f,l,a⟩:MB),(sG b n c:J))::G))=(((sG e (CS xs xs).length cl,(CS xs xs).map Int.ofNat):J×List Int)::Dx E)++((sG b n c:J),a)::Dx G from by simp[Dx]]at m;have:=CI.put (c':=g) m q (by rw[p];exact k) (Rc ⟨rfl,rfl,rfl,Nat.le_refl _, λ_ _ _=>rfl⟩ i (iZ z));simpa[Dx]using this
theorem JW.search{f m:Nat}(h:JW w u xs a cl f F)(d:(CS xs xs).length=m)(n:m<=1024)(p:Int)(l:0<=p)(g:p.toNat∈CS xs xs):
 Ai Ap 131 #[sG a m cl,iZ p] u λe i=>(∃b,e=Al (.tuple #[iZ (GO xs p),.bool b]))/\∃q,i=u.drewN q:=by
 have c:=Rd.gM (h.gV.own _ lV);simp only[lC]at c;have k:=RR a cl ((CS xs xs).map Int.ofNat) p u (by rw[lC,d];omega) (mu.2 ((Dm xs _).imp (λh=>by simpa using h))) (by rw[lC];exact c) (lA.2 ⟨p.toNat,g,oT⟩);have e:((CS xs xs).map Int.ofNat).idxOf p=(CS xs xs).idxOf p.toNat:=by have j:p=(p.toNat:Int):=oM;rw[<-VH];congr 1
 rw[lC,d,e]at k;exact k
theorem TG(xs:List MI)(a:List Int)(i:Nat)(p:Int)(h:a[i]?=K p):(Ad As ((a.map (GO xs)).take i++a.drop i)).set i (iZ (GO xs p))=Ad As ((a.map (GO xs)).take (i+1)++a.drop (i+1)):=by
 obtain⟨b,c⟩:=i6.1 h;rw[mD b,c,lL,lD];have d:(Ad As (List.take i (a.map (GO xs)))).length=i:=by rw[AE As 1 AA,lh,lC];omega
 rw[show As p++List.flatMap As (List.drop (i+1) a)=[Value.int Af p]++List.flatMap As (List.drop (i+1) a)from rfl,UN _ _ _ _ i d,kU (by simpa using b),lL,lL];simp[As,c]
theorem Cl{a0 a c:J}(h:AC w b #[a0,a,c] t):w b=K a0/\w ⟨b,1,M⟩=K a/\w ⟨b,2,M⟩=K c:=⟨h.cell 0,h.cell 1,h.cell 2⟩
theorem BL(w:Y)(A B:Array J)(s t:Aj):AC (Ac (Ac w (Ak A s)) (Ak B t)) w A s/\AC (Ac (Ac w (Ak A s)) (Ak B t)) ((w:Nat)+1) B t/\Ah w w (Ac (Ac w (Ak A s)) (Ak B t)):=by
 have c:=Aq w (Ak A s);have a:=Aq (Ac w (Ak A s)) (Ak B t);refine⟨(AC.new w _ _).a7 a,?_,Ar c lR a⟩;have b:=AC.new (Ac w (Ak A s)) B t;have d:(Ac w (Ak A s)).heap.size= ↑w+1:=sP
 rw[d]at b;exact b
theorem Ge(w:Y)(A B C:Array J)(s t r:Aj):AC (Ac (Ac (Ac w (Ak A s)) (Ak B t)) (Ak C r)) w A s/\AC (Ac (Ac (Ac w (Ak A s)) (Ak B t)) (Ak C r)) ((w:Nat)+1) B t/\AC (Ac (Ac (Ac w (Ak A s)) (Ak B t)) (Ak C r)) ((w:Nat)+1+1) C r/\Ah w w (Ac (Ac (Ac w (Ak A s)) (Ak B t)) (Ak C r)):=by
 obtain⟨e,f,g⟩:=BL w A B s t;generalize c:Ac (Ac w (Ak A s)) (Ak B t)=u at*;have d:(u:Nat)= ↑w+1+1:=by rw[<-c];simp
 have a:=Aq u (Ak C r);have b:=AC.new u C r;rw[d]at b;exact⟨e.a7 a,f.a7 a,b,Ar g lR a⟩
theorem ML.iC(a b:ML):a=b↔a.head=b.head/\a.back=b.back/\a.a8=b.a8:=by obtain⟨c,d,e⟩:=a;obtain⟨f,g,h⟩:=b;simp
theorem He(a b:ML)(g i d f:J)(w:Y)(D:a.back.length<=1048576/\a.a8.length<=1048576)(E:b.back.length<=1048576/\b.a8.length<=1048576)(h:TP w (a,g,i))(C:TP w (b,d,f)):
 Ai Ap 66 #[Am #[a.head,g,i],Am #[b.head,d,f]] w λe P=>AJ e (a=b)/\Ah w w P:=by
 have H:Ae (TP w (a,g,i)/\TP w (b,d,f)/\(a.back.length<=1048576/\a.a8.length<=1048576)/\b.back.length<=1048576/\b.a8.length<=1048576):=⟨h,C,D,E⟩
 clear h C D E;have t:=BL w #[a.head,g,i] #[b.head,d,f] 85 85;go_enter func66,ntmps66;go_upto_region 1 with fail
 refine Ax (λu=>AC u w #[a.head,g,i] 85/\AC u ((w:Nat)+1) #[b.head,d,f] 85/\Ah w w u) t ?_
 rintro U v;clear t;have c:Ae (AC U w #[a.head,g,i] 85/\AC U ((w:Nat)+1) #[b.head,d,f] 85/\Ah w w U):=v
 clear v;obtain⟨k,r,s⟩:=Cl c.1;obtain⟨m,n,p⟩:=Cl c.2.1;by_cases q:a.head=b.head
 . have L:Ae (a.head=b.head):=q;rw[q]at k;clear q;go_wp2_with fail;refine(Fu g d a.back b.back U H.2.2.1.1 H.2.2.2.1 (H.1.1.a7 c.2.2 lR) (H.2.1.1.a7 c.2.2 lR)).mono ?_;rintro e l ⟨⟨z,rfl,F⟩,Q,A⟩;have j:Ae (AC l w #[a.head,g,i] 85/\AC l ((w:Nat)+1) #[b.head,d,f] 85/\Ah w w l):=by subst A;exact⟨c.1.a7 (Az _ _ _),c.2.1.a7 (Az _ _ _),Ar c.2.2 lR (Az _ _ _)⟩
   have x:Ae (z=true↔a.back=b.back):=F;clear c k r s m n p A F;obtain⟨k,r,s⟩:=Cl j.1;obtain⟨m,n,p⟩:=Cl j.2.1;cases z
   . go_wp2;go_ret;exact⟨.no (λe=>by have:=x.2 ((ML.iC a b).1 e).2.1;simp at this),j.2.2⟩
   go_wp2_with fail;refine(Fu i f a.a8 b.a8 l H.2.2.1.2 H.2.2.2.2 (H.1.2.a7 j.2.2 lR) (H.2.1.2.a7 j.2.2 lR)).mono ?_;rintro e O ⟨⟨N,rfl,G⟩,R,B⟩;(have I:Ae (Ah w w O):=by subst B;exact Ar j.2.2 lR (Az _ _ _));have y:Ae (N=true↔a.a8=b.a8):=G;clear j k r s m n p B G;go_wp2;go_ret;exact⟨.of ⟨λe=>(ML.iC a b).2 ⟨L,x.1 (by first|rfl|trivial),y.1 e⟩, λe=>y.2 ((ML.iC a b).1 e).2.2⟩,I⟩
 go_wp2;go_ret;exact⟨.no λe=>q ((ML.iC a b).1 e).1,c.2.2⟩
structure GU(w:Y)(base:Nat)(V:J)(F:List (MB×J)):Prop where
 row:Ab w base 126 3 V F (Ad BN F)
 gV:CI w base (Dx F)
theorem RX(h:e<=1048576):IntKind.i64.wrap (e:Int)=(e:Int):=by simp[IntKind.wrap,IntKind.bits,IntKind.signed];omega
theorem QW{X B k g:Nat}{e:Aj}{b:Array J}{xs:List J}(h:AC u X b t)(i:Ab u B e k (sG g n c) n xs)(f:t≠e):¬X=g:= λd=>by subst d;obtain⟨_,j,a⟩:=AD i;unfold AC at h;rw[h]at a;simp only[kI,mg]at a;exact f a.2.1
theorem PB(n:Nat):(madeCells (Value.agg #[iZ 0,iZ 0,sN]).cells (n*3)).toList=(List.replicate n z3).flatten:=by rw[Cb KW z3 [] n (Am #[iZ 0,iZ 0,sN]) 3 rfl rfl oM];simp[Bu]
theorem Ln(s:J)(xs:List MI)(w:Y)(hn:xs.length<=1048576)(h:Rd w 4 s xs (Ad MI.cells xs)):
 Ai Ap 103 #[s] w λe w'=>∃V F,e=Al V/\GU w' w V F/\((¬A3 xs/\F=[])\/A3 xs/\F.map Prod.fst=AM xs)/\Ah w w w':=by
 obtain⟨i0,hi,bp,bq,br⟩:=lS Wz;have H:=Av h;obtain⟨a1,c1,rfl⟩:=h.dk;clear h;have aA:Ae (∀u:Y,GU u w sN []):= λu=>⟨lQ _ _ _ _,⟨λr U=>(by cases U),List.Pairwise.nil⟩⟩
 by_cases q0:xs.length=0
 . (have A:Ae (¬A3 xs):= λe=>by have:=e.1;omega);rw[q0];go_enter func103,ntmps103;go_wp2;go_ret;exact⟨_,[],rfl,aA.o _,.inl ⟨A,rfl⟩,kS _ _⟩
 by_cases q1:1024<xs.length
 . (have A:Ae (¬A3 xs):= λe=>by have:=e.2.1;omega);have bt:((xs:Int)==0)=false:=nX.2 oM;have bu:(1024:Int)<(xs:Int):=oM;go_enter func103,ntmps103;go_wp2;go_ret;exact⟨_,[],rfl,aA.o _,.inl ⟨A,rfl⟩,kS _ _⟩
 have bt:((xs:Int)==0)=false:=nX.2 oM;have bK:¬(xs:Int)=0:=oM;have bu:¬(1024:Int)<(xs:Int):=oM;go_enter func103,ntmps103;go_wp2_with fail;refine(LE (Z a1 xs c1) xs _ hn H).mono ?_;rintro e u1 ⟨⟨b1,rfl,aq⟩,ao⟩;cases b1
 . (have A:Ae (¬A3 xs):= λe=>absurd (aq.2 e.2.2) mY);have HB:=Av ao;clear aq ao;go_wp2;go_ret;exact⟨_,[],rfl,aA.o _,.inl ⟨A,rfl⟩,HB⟩
 have HG:Ae (A3 xs):=⟨oM,oM,aq.1 rfl⟩;have HB:=Av ao;clear aq ao;go_wp2_with fail;refine(MG (Z a1 xs c1) xs _ HG (H.a7 HB lR)).mono ?_;rintro e u2 ⟨C,cl,rfl,aT,T⟩;have aS:(CS xs xs).length<=1024:=kV (mW _ _) oT;have bg:0<(CS xs xs).length:=nM.2 (JH xs _ oM);have ae:=Av (d5 (Ba aT HB.size) (Ar HB lR T));clear aT T;generalize hM:(CS xs xs).length=m at aS bg ae⊢;have n:=Av hM;clear hM;go_wp2_with (at_make;refine l8 _ rfl _ _ 77 rfl w 126 i0 (Am #[iZ 0,iZ 0,sN]) 3 underlying77 hi bp bq Af Af _ _ m rfl rfl rfl rfl (by rw[br];omega) oX ae.2.size ?_;intro w3 aH aQ;rw[PB]at aH);have au:Ae (IW w w3 xs C cl u2 m []):=by
  have aM:Ah u2 u2 w3:=(kS _ _).grown aQ lR (λk hk=>by cases hk);refine⟨?_,⟨?_,?_⟩,?_,Ar ae.2 lR aM⟩
  . rw[n];simpa using aH
  . intro r U;simp only[Dx,List.map_nil,kY,lG,mS]at U;subst U;rw[n];simp only[lC,n.o];exact Aw ae.1 aM lR
  . simp[Dx]
  rw[nD (by rw[Hj,n];exact Nat.le_refl _)];rfl
 clear aH aQ ae;generalize u2.heap.size=L at au⊢;go_wp2;go_loopw [5,6] (λv i wr=>∃(j q:Nat) (D:List (MB×J)),j<=m/\v=iZ q/\i=iZ ((j:Int)-1)/\Ae ((CS xs xs++[xs.length])[j]?=K q/\IW w wr xs C cl L j D)) (λ_ i _=>(intOf i+1).toNat)
 case atStart=>exact⟨m,xs,[],Nat.le_refl _,rfl,rfl,⟨by rw[kT (by rw[n];exact Nat.le_refl _),n.o];simp,au⟩⟩
 clear au;obtain⟨j,q,D,hj,rfl,rfl,z⟩:=hrel;cases j with
 | succ b=>
   rw[show(((b+1:Nat):Int)-1)=(b:Int)from oM];obtain⟨a,ha⟩:∃a,(CS xs xs)[b]?=K a:=⟨_,an (by rw[n];omega)⟩;have aP:=O8 _ _ _ _ _ ha z.1;obtain⟨e,he,b7⟩:=Jg xs xs oM _ (by rw[Cp];exact i7 aP);simp only[]at he;obtain⟨x,hx⟩:∃x,xs[e]?=K x:=⟨_,an b7⟩;have HX:=Av (d5 ha (d5 he hx));have bi:(q:Int)=(e:Int)+1:=oM;have bF:(e:Int)+1-1=(e:Int):=oM;have aF:=z.2.lead;rw[n]at aF;have l0:=aF.cellAt b oM;rw[C5,lE,lE,ha]at l0;simp only[nI]at l0;have aI:wr ⟨C,b,M⟩=K ↑a:=l0
   have l1:=Au (At wr) aI;have Q:=z.2.row;rw[n,Qo]at Q;have HR:=Av Q;have R1:=Av (H.a7 z.2.e8 lR);have PF:Ae (∀u:Y,Rd u 4 (Z a1 xs c1) xs (Ad MI.cells xs)->Ai Ap 130 #[Z a1 xs c1,(e:Int)] u λe1 w'=>∃r,e1=Al r/\Ab w' u 2 1 r (AY xs x e).length (Ad As (AY xs x e))/\Ah u u w'):= λu hu=>Hn _ xs x e u HG.2.1 HG.2.2 HX.2.2 hu
   clear ha he hx aP aF Q l0;have bC:(b:Int)<(m:Int):=oM;have bI:IntKind.i64.wrap (e:Int)=(e:Int):=RX oM;rw[bi];go_wp2_with fail;go_region_law (first
    |(go_simp;go_at_call 130;refine(PF.o _ (R1.a7 (At _) lR)).mono ?_;rintro e1 u5 ⟨r,rfl,aJ,b5⟩;obtain⟨ar,cr,rfl⟩:=(Rd.gM aJ).dk;have B5:Ae (Ah wr wr u5):=Bm b5 lR;have O5:Ae (Ab u5 wr 2 1 (Z ar (AY xs x e).length cr) (AY xs x e).length (Ad As (AY xs x e))):=aJ;have l2:=Au B5 aI;have X:=Aw HR B5 lR;have N:=X.cellAt (b*3) oM;have O:=X.cellAt (b*3+1) oM;have P:=X.cellAt (b*3+2) oM;have f0:=X.frozenAt (b*3);have f1:=X.frozenAt (b*3+1);have f2:=X.frozenAt (b*3+2);rw[kT (by rw[RY];omega),RY]at N O P;rw[mU]at N;rw[mH]at O P;simp only[z3,lK,i9,kC]at N O P;clear aJ b5 X))
   all_goals
    refine AX (λu=>Ae (IW w u xs C cl L b ((⟨(a:Int),(e:Int),AY xs x e⟩,Z ar (AY xs x e).length cr)::D))) (z.2.next B5 O5 HX.1 z.1 HX.2.1 HX.2.2) ?_;intro U7 A;have l7:=A.lead.cellAt b (by rw[n];omega);rw[C5,lE,lE,HX.1]at l7;simp only[nI]at l7;have bJ:U7 ⟨C,b,M⟩=K ↑a:=l7
    clear l7 aI l1 l2 N O P f0 f1 f2;(have HQ:Ae ((CS xs xs++[xs.length])[b]?=K a):=by show _=_;rw[lO (by rw[n];omega)];exact HX.1);go_wp2;go_roundw;(case rel=>exact⟨b,a,_,oM,rfl,by go_num,⟨HQ,A⟩⟩);simp[intOf]
 | zero =>
   rw[show(((0:Nat):Int)-1)=-1 from rfl];have aw:Ae (JW w wr xs C cl L D/\D.map Prod.fst=Kx xs/\ ↑D=m):=by refine⟨⟨by simpa using z.2.row,z.2.gV,z.2.e8⟩,by simpa using z.2.done,?_⟩;have:=congrArg List.length z.2.done;rw[lC,List.drop_zero,Hj,n]at this;exact this
   have HD:=Av aw.2;have HP:Ae (∀x∈D,∀p∈x.1.next,0<=p/\p.toNat∈CS xs xs):= λx hx p hp=>PS xs HG x.1 (by rw[<-HD.1];exact nN hx) p hp
   (have aW:Ae (∀x∈D,x.1.next.length<=2):=by intro x hx;have hm:=nN (f:=Prod.fst) hx;rw[HD.1]at hm;unfold Kx at hm;obtain⟨m0,_,e0⟩:=lA.1 hm;rw[<-e0];simp only[Tp,AY];split<;>split<;>simp);clear z hj;go_wp2;go_loopw [60] (λi wr=>∃E G:List (MB×J),Ae (D=E++G)/\ ↑E<=m/\i=iZ (E:Nat)/\Ae (JW w wr xs C cl L (E.map (Ku xs)++G))) (λi _=>m-(intOf i).toNat)
   (case atStart=>exact⟨[],D,rfl,sP,rfl,aw.1⟩);clear aw;obtain⟨E,G,aj,hE,rfl,HJ⟩:=hrel;have aR: ↑E+ ↑G=m:=by have:=HD.2;rw[aj,kE]at this;exact this
   cases G with
   | nil=>
     have aZ: ↑E=m:=by simpa using aR
     have HF:Ae (GU wr w (sG L m m) (E.map (Ku xs))/\(E.map (Ku xs)).map Prod.fst=AM xs):=by
      (have aY:D=E:=by rw[aj];simp);refine⟨⟨?_,?_⟩,?_⟩
      . have:=HJ.row;rw[n]at this;rw[lC,aZ];simpa using this
      . have:=HJ.gV;exact⟨λr U=>this.own r (by simp at U⊢;exact .inr U),(by have h2:=this.sep;simp only[m6]at h2;exact(lg.1 h2).2)⟩
      exact T6 xs HG E (by rw[<-aY];exact HD.1)
     have aU:=Av HJ.e8;go_wp2;go_ret;exact⟨_,_,rfl,HF.1,.inr ⟨HG,HF.2⟩,aU⟩
   | cons y G'=>
     obtain⟨⟨f,l,d⟩,v⟩:=y;have bB: ↑E<m:=by simp only[lX]at aR;omega
     have bx:(E:Int)<(m:Int):=oM;(have aG:((⟨f,l,d⟩,v):MB×J)∈D:=by rw[aj];simp);have aX:=Av (HP.o _ aG);have bH:d.length<=2:=aW.o _ aG;have t:=HJ.gV.own (v,d) (by simp[Dx]);simp only[]at t;obtain⟨R,B,rfl⟩:∃a c,v=Z a d c:=(Rd.gM t).dk;have Q:=HJ.row;rw[n,lL,lD]at Q;have hA:(Ad BN (E.map (Ku xs))).length= ↑E*3:=by rw[AE BN 3 A9,lC]
     have N:=Q.cellAt (E.length*3) oM;have O:=Q.cellAt (E.length*3+1) oM;have P:=Q.cellAt (E.length*3+2) oM;rw[kT oM,hA]at N O P;rw[mU]at N;rw[mH]at O P;simp only[BN,lK,i9,kC]at N O P;clear Q hA aG;obtain⟨wo,bj⟩:∃W,W=wr:=⟨_,rfl⟩;subst bj;(go_upto_region 14 with fail);refine Ax (λu=>Ae (JW w u xs C cl L (E.map (Ku xs)++(⟨f,l,d⟩,Z R d B)::G')/\AC u wo #[f,l,Z R d B] 126)) ⟨HJ.a7 (Aq _ _),AC.new _ _ _⟩ ?_
     intro U1 am;clear N O P;have T:=am.2.cell 2;simp only[kB,i9,kC]at T;go_wp2;go_loopw [67] (λi wr=>∃k:Nat,k<= ↑d/\i=iZ k/\Ae (JW w wr xs C cl L (E.map (Ku xs)++(⟨f,l,(d.map (GO xs)).take k++d.drop k⟩,Z R d B)::G')/\AC wr wo #[f,l,Z R d B] 126)) (λi _=> ↑d-(intOf i).toNat)
     (case atStart=>exact⟨0,oM,rfl,⟨by have S:=am.1;simpa using S,am.2⟩⟩);clear am T;obtain⟨k,hk,rfl,HK⟩:=hrel;by_cases bf:k< ↑d
     . obtain⟨p,hp⟩:∃p,d[k]?=K p:=⟨_,an bf⟩;have aE:((d.map (GO xs)).take k++d.drop k).length=d.length:=oT;have t:=HK.1.gV.own (Z R d B,(d.map (GO xs)).take k++d.drop k) (by simp[Dx]);simp only[aE]at t;obtain⟨I,rfl⟩:∃I,R=K ⟨I,0,M⟩:=by
        rcases BU t with⟨_,S⟩|⟨g,c,S⟩
        . omega
        simp only[i8]at S;exact⟨g,S.1⟩
       have HC:Ae (d[k]?=K p/\((d.map (GO xs)).take k++d.drop k).length=d.length/\0<=p/\p.toNat∈CS xs xs.length):=⟨hp,aE,aX.o p (i7 hp)⟩
       have c0:=t.cellAt k oM;rw[C5,lE,kT oT]at c0;rw[show k-(List.take k (d.map (GO xs))).length=0 from oT,oG,kJ,hp]at c0;simp only[nI]at c0;clear hp aE t;have bG:(k:Int)<(d:Int):=oM;go_wp2_with fail;refine(HK.1.search n aS p HC.2.2.1 HC.2.2.2).mono ?_;rintro e1 u3 ⟨⟨bb,rfl⟩,qq,hq⟩;have ah:Ae (JW w u3 xs C cl L (E.map (Ku xs)++(⟨f,l,(d.map (GO xs)).take k++d.drop k⟩,sG I d B)::G')/\AC u3 wo #[f,l,sG I d B] 126):=by rw[hq];exact⟨HK.1.drew qq,HK.2⟩
       clear hq c0 HK;have t:=ah.1.gV.own (sG I d B,(d.map (GO xs)).take k++d.drop k) (by simp[Dx]);simp only[HC.2.1]at t;have T:=ah.2.cell 2;simp only[kB,i9,kC]at T;have c1:=t.cellAt k oM;rw[C5,lE,kT oT]at c1;rw[show k-(List.take k (d.map (GO xs))).length=0 from oT,oG,kJ,HC.1]at c1;simp only[nI]at c1;have c2:=t.frozenAt k;have bo:¬ ↑wo=I:=QW ah.2 t dC
       have A:Ae (JW w (Aa u3 ⟨I,k,M⟩ (GO xs p)) xs C cl L (E.map (Ku xs)++(⟨f,l,(d.map (GO xs)).take (k+1)++d.drop (k+1)⟩,sG I d B)::G')/\AC (Aa u3 ⟨I,k,M⟩ (GO xs p)) wo #[f,l,sG I d B] 126):=⟨ah.1.set HC.2.1 (TG xs d k p HC.1) oT,ah.2.other (a:=⟨I,k,M⟩) bo _⟩
       clear t;go_wp2;go_roundw;(case rel=>exact⟨k+1,oM,by go_num,A⟩);exact oI
     obtain rfl:k=d.length:=oM;(have A:Ae (JW w wr xs C cl L ((E++[((⟨f,l,d⟩:MB),(Z R d B:J))]).map (Ku xs)++G')):=by have S:=HK.1;rw[k8 sP,nD lR,m6]at S;show JW _ _ _ _ _ _ _;simpa[Ku]using S);go_wp2;go_roundw;(case rel=>exact⟨E++[(⟨f,l,d⟩,Z R d B)],G',by show _=_;rw[aj];simp,by simp only[kE,kK];omega,by simp only[kE,kK];go_num,A⟩);exact oI
end Go.Proofs.YtmalfecapdmdbaaGreat
