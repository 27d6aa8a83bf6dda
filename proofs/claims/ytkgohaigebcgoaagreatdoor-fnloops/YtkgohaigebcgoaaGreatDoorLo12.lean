import Derived.Test.YtkgohaigebcgoaaGreatDoorLo11
namespace Go.Proofs.YtkgohaigebcgoaaGreatDoor
open Go.ChangeShapes Go.WideShapes Go.ChangeAt Go.RowKit Go.Proofs.Tryz
set_option linter.unusedVariables false
open Option renaming some → K,none → M
open Go renaming Value → J,World → Y,TypeId → Aj,Calls → Ai
open Go.IntKind renaming i64 → Af
open Go.Value renaming int → Ag,slice → Z,bool → Ao,tuple → Ap
open Go.World renaming setCell → Aa,ownsRow → Ab,alloc → Ac
open List renaming flatMap → Ad
open Go.RowKit renaming Hid → Ae,Below → Ah
open Go.Obj renaming cells → Ak
open Go.Ending renaming returned → Am
open Go.Proofs.Tryz renaming prog → Aq
set_option maxHeartbeats 8000000
set_option maxRecDepth 100000
variable {e g s:J}{xs:List MI}{z y t c:Int}{F:List (MG×J)}{a i B:Nat}{p:MP}{D:DataW Unit}{X:VS}{fs:List MG}{h:MG->MG}{cs:List (List MC)}{v:MC}{R:Nat->Prop}{d:Bool}
structure GV where
 fc:Int
 fa:Int
 gb:Nat
 ob:Nat
 cb:Nat
 go:Nat
 oo:Nat
 co:Nat
 vi:J
 vl:J
 gi:Nat
 ci:Nat
 gc:Nat
 cc:Nat
def Ks(x:Int):Prop:=0<=x/\x<=4294967295
structure GF(w:Y)(n:Nat)(x:GV)(E:Nat->List Nat)(O:List Nat):Prop where
 gr:Se w x.gb x.ob n E
 ord:∀k y:Nat,O[k]?=K y->w ⟨x.go,x.oo+k,M⟩=K ↑(y:Int)
 ol: ↑O=n
 ob:∀y∈O,y<n
 eb:∀b,b<n->∀y∈E b,y<n
 sz:∀b,(E b).length<=2
theorem Ep{u:Y}{B g b k n c i:Nat}{e:Aj}{xs:List J}{z:J}(h:Ab u B e k (sG g n c) n xs)(d:g≠b):Ab (Aa u ⟨b,i,M⟩ z) B e k (sG g n c) n xs:=kK h (a:=⟨b,i,M⟩) (λe=>d (by simpa[Value.ownBlock]using e)) z
theorem Fc{C:List Int}{b:Nat}(h:C[b]?=K y):(Ad As C)[b]?=K ↑y:=by
 have:Ad As C=C.map (Ag Af):=by
  induction C generalizing b with
  |nil=>rfl
  | cons x r a=>
    have:List.flatMap As r=List.map (Ag Af) r:=by
     clear a h;induction r with
     |nil=>rfl
     |cons x r a=>rw[ke,a];rfl
    rw[ke,this];rfl
 rw[this,jY,h];rfl
def qB:J->Nat
 |.slice _ n _=>n
 |_=>0
theorem Pi (G n F P A N B u C D:Nat)(E:Nat->List Nat)(O:List Nat)(w:Y)(hn:n<=1024)(hP:Fa E n (Ea O))(hO: ↑O=n)(aR:O.Nodup)(aE:∀x,x∈O↔x<n)(bf:∀b,(Bq E n b).length<=4096)
 (bJ:n<=u) (h:Ay w G #[sG F n P,sG A n N,sG B n u,sG C n D,sN] 101) (hF:Gh w A 0 n (Bq E n)) (aS:∀k x:Nat,O.reverse[k]?=some x->w ⟨B,k,M⟩=some ↑(x:Int)) (aT:∀x,x<n->w ⟨C,x,M⟩=some ↑(Ea O x:Int))
 (aq:F≠G/\A≠G/\B≠G/\C≠G/\∀b a c,b<n->w ⟨A,b,M⟩=some (Z (some a) (Bq E n b).length c)->a.block≠G):
 Ai Aq 25 #[.pointer G] w λe w'=>e=Am (Ap #[])/\∃t I,DW w w' G n #[sG F n P,sG A n N,sG B n u,sG C n D] t I/\Qc E n (Ea O) I:=by
 obtain⟨K0,aQ⟩:=VR E n;obtain⟨K,bH,hK⟩:∃K,1<=K/\∀e,e<n->∀x,x<n->ES E (· ≠e) 0 x->FY E (· ≠e) 0 K x:=⟨K0+1,oM, λe he x g hr=>(aQ e he x g hr).mono oM⟩
 have H:=Aw (fd h (fd hF (fd aS (fd aT aq))));have r:=Aw (fd hP (fd aR (fd aE (fd bf (fd hK ((λx g=>by have:=pq ((aE x).2 g);omega):(∀x,x<n->Ea O x<n)))))));have br:=hP.pos;have aO:=h.lt;clear h hF aS aT aq hP aR aE bf hK aQ;have c0:(Ac w (Ak #[iZ (-1)] 2)) G=some (sG F n P):=(H.1.av (Al _ _)).cell 0;go_enter func25,ntmps25;go_wp2_with fail;refine(Tj w n _ br hn ((Ay.new w #[iZ (-1)] 2).cell 0)).mono ?_;rintro e u1 ⟨t,rfl,aH,b1⟩;rw[pM]at aH;have bA:=Al w (Ak #[iZ (-1)] 2);have k1:=(H.1.av bA).av b1;have d4:u1 ⟨G,4,M⟩=some sN:=k1.cell 4;have z4:=k1.frozen 4;have aI:Ae (DW w (Aa u1 ⟨G,4,M⟩ (sG t n n)) G n #[sG F n P,sG A n N,sG B n u,sG C n D] t (λ_=> -1)):=by
  have aF:Ah w w u1:=Ar bA lR b1;have bg:=BI aH (b:=w) bA.size;have Q:=(AY bg).1;refine⟨⟨_,_,_,_,rfl,?_⟩,kK bg (a:=⟨G,4,M⟩) (by simp[Value.ownBlock];omega) _, λk hk aq=> ?_,(aF.mono (mI aO)).setCell lR _,by rw[lk];exact aF.size,aO⟩
  . have:=k1.set 4 (sG t n n);simpa using this
  rw[lj u1 _ k _ aq];exact aF.block k hk
 clear aH b1 bA k1 c0;have ai:Ae (Kw E n (Ea O) 0 1 (λ_=> -1)):=⟨Jf.start (λ_=>rfl),Nb.start r.1 (λ_=>rfl), λx g hl=>by
  by_cases e:x=0
  . exact .inl e
  have:=r.1.cz x g e;omega,.inl rfl,rfl⟩
 go_wp2;go_loopg [2] (K+2) (λm v wr=>∃(s:Bool) (I:Nat->Int) (k:Nat),v=Ao s/\Ae (DW w wr G n #[sG F n P,sG A n N,sG B n u,sG C n D] t I)/\((s=true/\m+k=K+2/\k<=K/\Ae (Kw E n (Ea O) k 1 I))\/(s=false/\Ae (Qc E n (Ea O) I))))
 case atStart=>exact⟨true, λ_=> -1,0,rfl,aI,.inl ⟨rfl,rfl,oM,ai⟩⟩
 clear aI ai d4 z4;obtain⟨s,I0,k,rfl,HD,bi⟩:=hrel;rcases bi with⟨rfl,hm,bP,ai⟩|⟨rfl,au⟩
 . obtain ⟨w0,bt⟩:∃W,W=wr:=⟨_,rfl⟩;subst bt;(have o2:w0 ⟨G,2,M⟩=some (sG B n u):=by obtain⟨x0,x1,x2,x3,e,kk⟩:=HD.eP;simp only[Array.mk.injEq,mK,mD]at e;obtain⟨rfl,rfl,rfl,rfl⟩:=e;exact kk.cell 2);(go_upto_region 4 with fail);go_cut [21,22,23]from 17 to 22 (λsv lv iv wx=>∃a c,sv=Z a (n-1) c/\(1<n->a=some ⟨B,1,M⟩)/\lv=iZ ((n-1:Nat):Int)/\iv=iZ 0/\wx=w0)
   case first=>
    by_cases aG:u=1
    . subst aG;obtain rfl:n=1:=oM;go_wp2;go_meet;exact⟨_,_,rfl, λq=>oM,rfl,rfl,rfl⟩
    have aW:1<u:=oM;go_wp2;go_meet;exact⟨_,_,rfl, λq=>rfl,by go_num,rfl,rfl⟩
   case rest=>
    obtain⟨bB,bC,rfl,ha,rfl,rfl,ae⟩:=hcut;rw[ae];clear ae o2;have aJ:Ae (∀(U:Y) (f:Nat->Int),DW w U G n #[sG F n P,sG A n N,sG B n u,sG C n D] t f->GI U G n C D t n (Ea O) f/\U ⟨G,1,M⟩=some (sG A n N)):= λU f hU=>by obtain⟨x0,x1,x2,x3,e,kk⟩:=hU.eP;simp only[Array.mk.injEq,mK,mD]at e;obtain⟨rfl,rfl,rfl,rfl⟩:=e;refine⟨⟨kk.cell 3,kk.cell 4, λx g=>hU.cell (H.2.2.2.1 x g) H.2.2.2.2.2.2.2.1, λx g=> ?_⟩,kk.cell 1⟩;have:=hU.row.cellAt x oM;rw[R9 _ _ _ g]at this;exact this
    go_wp2;go_loopw [2,23] (λv i wr=>∃(s:Bool) (f:Nat->Int) (j:Nat),v=Ao s/\i=iZ (j:Int)/\j+1<=n/\Ae (DW w wr G n #[sG F n P,sG A n N,sG B n u,sG C n D] t f/\Kw E n (Ea O) k (j+1) f/\(s=false->f=I0/\∀b,b<n->b≠0->Ea O b<j+1->Bg n f (Bq E n b) (f b))/\(K<=k->s=false))) (λ_ i _=>n-(intOf i).toNat)
    (case atStart=>exact⟨false,I0,0,rfl,rfl,oM,HD,ai, λ_=>⟨rfl, λb L V hl=>by have:=r.1.cz b L V;omega⟩, λ_=>rfl⟩);obtain⟨s,f,j,rfl,rfl,hj,l⟩:=hrel;by_cases bQ:j<n-1
    . have bq:(j:Int)<((n-1:Nat):Int):=oM;obtain rfl:=ha oM;obtain⟨b,L⟩:∃b,O.reverse[j+1]?=some b:=⟨_,an (by rw[lB];omega)⟩;have aj:b∈O:=kx.1 (hC L);have X:b<n:=(r.2.2.1 b).1 aj;have bI:(b:Int)<(n:Int):=oM;(have aZ:Ea O b=j+1:=by have h1:=H9 aj;have hd:O.reverse.Nodup:=List.pairwise_reverse.2 (r.2.1.imp Ne.symm);obtain⟨l1,e1⟩:=f7.1 h1;obtain⟨l2,e2⟩:=f7.1 L;exact(List.getElem_inj hd).1 (e1.trans e2.symm));(have V:b≠0:= λq=>by have:=r.1.zero;rw[q]at aZ;omega);have ob:=l.1.cell (H.2.2.1 (j+1) b L) H.2.2.2.2.2.2.1;rw[Nat.add_comm]at ob;obtain⟨Q,f1⟩:=aJ.o _ _ l.1;obtain⟨af,cf,e0,e1⟩:=H.2.1 b X;rw[kT]at e0;(have aM:Ae (Lp wr (Z af (Bq E n b).length cf) (Bq E n b)):=by refine⟨e1.1,e1.2.imp id ?_⟩;rintro⟨g',o',c',q1,q2⟩;refine⟨g',o',c',q1, λjj v hv=>l.1.cell (q2 jj v hv) ?_⟩;simp only[i8,kW]at q1;exact H.2.2.2.2.2.2.2.2 b ⟨g',o',M⟩ cf X (by rw[e0,q1.1]));have f2:=l.1.cell e0 H.2.2.2.2.2.1;have aK:=Aw Q;have HB:=Aw (fd aj aZ);clear e0 e1 Q L aj;go_wp2_with fail;refine(O8 G n C D t n (Ea O) f _ (Bq E n b) wr hn l.2.1.fE.tree r.1.zero r.1.inj (λp hp=>((Di E n b p).1 hp).1) (r.2.2.2.1 b) aM aK).mono ?_;rintro e u5 ⟨z,rfl,hz,b5⟩;have ax:=Aw (l.1.av b5);obtain⟨Q,bG⟩:=aJ.o _ _ ax;have i4:=Q.i;have ib:=Q.ic b X;have iz:=ax.row.frozenAt b;(obtain⟨S,aA⟩:∃S:Nat->Int,∀y,S y=if y=b then z else f y:=⟨_, λy=>rfl⟩);have HN:Ae (DW w (Aa u5 ⟨t,b,M⟩ z) G n #[sG F n P,sG A n N,sG B n u,sG C n D] t S/\Kw E n (Ea O) k (j+1+1) S/\(z=f b->S=f)/\Bg n f (Bq E n b) z/\(K<=k->z=f b)):=by
       refine⟨ax.set b z aA,l.2.1.step r.1 X V HB.2 hz aA, λq=> ?_,hz, λaY=> ?_⟩
       . (funext y);rw[aA y];by_cases e:y=b
         . rw[jP e,q,e]
         rw[jH e]
       have T:∀x,x<n->Kn f x:=l.2.1.all.resolve_left oM;refine Za r.1 l.2.1.fE T (λx g d hd hr=> ?_) X V (Ht E n b) hz;have bj:=(hd.fU l.2.1.fE.tree g).2.2;exact(l.2.1.jk x g (T x g) d hd).1 ((r.2.2.2.2.1 d bj x g hr).mono aY)
      clear Q hz b5 aK aM f1 f2 ob;(go_upto_region 8 with fail);go_cut [2]from 36 to 47 (λc wx=>(∃c':Bool,c=Ao c'/\(c'=false->s=false/\z=f b)/\(s=false->z=f b->c'=false))/\wx=u5)
      case first=>
       cases s
       . by_cases aa:z=f b
         . (have bx:(z != f b)=false:=by simp[aa]);have HZ:=Aw aa;clear aa;go_wp2;go_meet;exact⟨⟨_,rfl, λ_=>⟨trivial,HZ⟩, λ_ _=>rfl⟩,rfl⟩
         (have bx:(z != f b)=true:=by simp[aa]);have HZ:=Aw aa;clear aa;go_wp2;go_meet;exact⟨⟨_,rfl,(λq=>(by cases q)),(λ_ q=>absurd q HZ.o)⟩,rfl⟩
       go_wp2;go_meet;exact⟨⟨_,rfl,(λq=>(by cases q)),(λq=>(by cases q))⟩,rfl⟩
      case rest=>
       obtain⟨⟨c',rfl,aG,aW⟩,ae⟩:=hcut;rw[ae];clear ae;go_wp2;go_roundw;case rel=>
        refine⟨c',S,j+1,rfl,by go_num,oM,HN.1,HN.2.1, λq=> ?_, λq=>aW (l.2.2.2 q) (HN.2.2.2.2 q)⟩;obtain⟨q1,q2⟩:=aG q;obtain⟨r1,r2⟩:=l.2.2.1 q1;have r3:=HN.2.2.1 q2;refine⟨r3.trans r1, λy hy bu hl=> ?_⟩;rw[r3];by_cases e:y=b
        . rw[e,<-q2];exact HN.2.2.2.1
        refine r2 y hy bu ?_;have h1:=r.1.inj y b hy X;have h2:=HB.2;omega
       case measure=>exact oI
    have aX:j+1=n:=oM;have bq:¬(j:Int)<((n-1:Nat):Int):=oM;have R:Ae (Kw E n (Ea O) (k+1) 1 f/\∀x,x<n->Kn f x):=by have h0:=l.2.1;rw[aX]at h0;(have T:∀x,x<n->Kn f x:= λx g=>h0.kn x g (r.2.2.2.2.2 x g));exact⟨⟨h0.fE,h0.jk.pass r.1 r.2.2.2.2.2, λx g _=>T x g,.inr T,h0.z⟩,T⟩
    cases s
    . (have au:Ae (Qc E n (Ea O) f):=by obtain⟨_,q2⟩:=l.2.2.1 rfl;refine⟨R.1.fE,R.2, λd x g=>Zm r.1 R.1.fE R.2 (Bq E n) (λb _=>Ht E n b) (λb L V=>q2 b L V (by rw[aX];exact r.2.2.2.2.2 b L)) g,R.1.z⟩);go_wp2;go_roundg 0;(case measure=>omega);exact⟨false,f,0,rfl,l.1,.inr ⟨rfl,au⟩⟩
    . have aY:k<K:=by
       by_cases q:K<=k
       . have:=l.2.2.2 q;cases this
       omega
      go_wp2;go_roundg (gk-1);(case measure=>omega);exact⟨true,f,k+1,rfl,l.1,.inl ⟨rfl,oM,oM,R.1⟩⟩
 go_wp2;go_end0;exact⟨rfl,t,I0,HD,au⟩
def Hh(xs:List MI)(p:Int):Int:=((lds xs xs).idxOf p.toNat:Int)
def Lg(xs:List MI)(x:MB×J):MB×J:=(⟨x.1.cz,x.1.last,x.1.next.map (Hh xs)⟩,x.2)
theorem Xn(xs:List MI)(c:Bb xs)(D:List (MB×J))(h:D.map Prod.fst=Li xs):(D.map (Lg xs)).map Prod.fst=AQ xs:=by
 have g:(D.map (Lg xs)).map Prod.fst=(D.map Prod.fst).map λb=>⟨b.cz,b.last,b.next.map (Hh xs)⟩:=by rw[mJ,mJ];rfl
 rw[g,h];unfold Li AQ;rw[mJ];apply mG;intro m d;obtain⟨b,i⟩:=kq d;obtain⟨e,a,j⟩:=Mk xs xs c.1 m d;obtain⟨x,f⟩:∃x,xs[e]?=K x:=⟨_,an j⟩;have k:=Om xs b e x m c i a f;simp only[Function.comp,Vv,MV];rw[a,i9,jQ,f];simp only[mL];rw[k];rfl
theorem Rw(xs:List MI)(j:Bb xs)(m:MB)(k:m∈Li xs)(p:Int)(d:p∈m.next):0<=p/\p.toNat∈lds xs xs:=by
 unfold Li at k;obtain⟨n,l,rfl⟩:=kI.1 k;obtain⟨b,g⟩:=kq l;obtain⟨e,h,i⟩:=Mk xs xs j.1 n l;obtain⟨x,f⟩:∃x,xs[e]?=K x:=⟨_,an i⟩;simp only[Vv]at d;rw[h,i9,jQ,f]at d;simp only[mL,Bc]at d;rcases jL.1 d with a|a
 . split at a
   . rename_i q;simp only[jK,jO,kM]at a;subst a;rw[Cl]at g;refine⟨oM,?_⟩;rw[i9];exact L3 _ _ _ _ _ g h q.2
   cases a
 split at a
 . rename_i q;simp only[jK,jO,kM]at a;subst a;obtain⟨c0,c1⟩:=j.2.2 e x f q.1;have c3:(x.c.toNat:Int)=x.c:=mZ c0;exact⟨c0,(Dk _ _ _).2 ⟨oM,Mm xs _ e _ x i f (by simp[Hy,q.1,c3])⟩⟩
 cases a
theorem Zu(L:List Nat)(q:Nat):(L.map Int.ofNat).idxOf (q:Int)=L.idxOf q:=by
 induction L with
 |nil=>rfl
 | cons y r c=>
   rw[lM,nA,nA,c];by_cases h:y=q
   . subst h;simp
   (have a:(Int.ofNat y==(q:Int))=false:=by rw[mN];intro e;exact h (by have d:(y:Int)=(q:Int):=e;omega));(have b:(y==q)=false:=by simpa using h);rw[a,b]
structure JW(w u:Y)(xs:List MI)(gl cl bl:Nat)(F:List (MB×J)):Prop where
 row:Ab u w 97 3 (sG bl (lds xs xs).length (lds xs xs).length) (lds xs xs).length (Ad Dq F)
 eT:CO u w ((sG gl (lds xs xs).length cl,(lds xs xs).map Int.ofNat)::DQ F)
 cq:Ah w w u
theorem JW.av{w u d:Y}{c cl b:Nat}{F:List (MB×J)}(h:JW w u xs c cl b F)(a:Ah u u d):JW w d xs c cl b F:=⟨AC h.row a lR,h.eT.av a,Ar h.cq lR a⟩
theorem JW.drew{w u:Y}{b cl a:Nat}{F:List (MB×J)}(h:JW w u xs b cl a F)(k:Nat):JW w (u.drewN k) xs b cl a F:=⟨⟨h.row.1,h.row.2⟩,⟨λr c=>⟨(h.eT.own r c).1,(h.eT.own r c).2⟩,h.eT.sep⟩,⟨h.cq.os,h.cq.tape,h.cq.output,h.cq.size,h.cq.block⟩⟩
theorem JW.set{w u:Y}{e cl j b c n:Nat}{E G:List (MB×J)}{f l:Int}{a g:List Int}(h:JW w u xs e cl j (E++(⟨f,l,a⟩,sG b n c)::G))(p: ↑a=n)(r:(Ad As a).set i (iZ z)=Ad As g)(q:g.length= ↑a):JW w (Aa u ⟨b,i,M⟩ (iZ z)) xs e cl j (E++(⟨f,l,g⟩,sG b n c)::G):=by
 have d:=h.eT.own (sG b n c,a) (by simp[DQ]);simp only[]at d;rw[p]at d;have k:=(d.stored i (iZ z)).1;rw[r]at k;refine⟨?_,?_,h.cq.setCell (AY d).1 _⟩
 . have:=MJ h.row d dC i (iZ z);simpa[Dq]using this
 have m:=h.eT;rw[show(((sG e (lds xs xs).length cl,(lds xs xs).map Int.ofNat):J×List Int)::DQ (E++((⟨f,l,a⟩:MB),(sG b n c:J))::G))=(((sG e (lds xs xs).length cl,(lds xs xs).map Int.ofNat):J×List Int)::DQ E)++((sG b n c:J),a)::DQ G from by simp[DQ]]at m;have:=CO.put (c':=g) m q (by rw[p];exact k) (SM ⟨rfl,rfl,rfl,Nat.le_refl _, λ_ _ _=>rfl⟩ i (iZ z));simpa[DQ]using this
theorem JW.search{w u:Y}{a cl f m:Nat}{F:List (MB×J)}(h:JW w u xs a cl f F)(d:(lds xs xs).length=m)(n:m<=1024)(p:Int)(l:0<=p)(g:p.toNat∈lds xs xs):
 Ai Aq 56 #[sG a m cl,iZ p] u λe i=>(∃b,e=Am (.tuple #[iZ (Hh xs p),.bool b]))/\∃q,i=u.drewN q:=by
 have c:=Rd.eS (h.eT.own _ kt);simp only[kC]at c;have k:=Tl a cl ((lds xs xs).map Int.ofNat) p u (by rw[kC,d];omega) (mH.2 ((DG xs _).imp (λh=>by simpa using h))) (by rw[kC];exact c) (kI.2 ⟨p.toNat,g,oT⟩);have e:((lds xs xs).map Int.ofNat).idxOf p=(lds xs xs).idxOf p.toNat:=by have j:p=(p.toNat:Int):=oM;rw[<-Zu];congr 1
 rw[kC,d,e]at k;exact k
theorem Wc(xs:List MI)(a:List Int)(i:Nat)(p:Int)(h:a[i]?=K p):(Ad As ((a.map (Hh xs)).take i++a.drop i)).set i (iZ (Hh xs p))=Ad As ((a.map (Hh xs)).take (i+1)++a.drop (i+1)):=by
 obtain⟨b,c⟩:=f7.1 h;rw[lV b,c,kJ,ke];have d:(Ad As (List.take i (a.map (Hh xs)))).length=i:=by rw[AV As 1 AE,kp,kC];omega
 rw[show As p++List.flatMap As (List.drop (i+1) a)=[Value.int Af p]++List.flatMap As (List.drop (i+1) a)from rfl,rq _ _ _ _ i d,kN (by simpa using b),kJ,kJ];simp[As,c]
def YU(p:MP)(a:List Int):Prop:=(AX p 0/\a=CV p.aB)\/(¬AX p 0/\a=[])
theorem QV(h:AX p 0):Bz p.aB/\DY p:=by
 rcases h with h|h|h|h|h|h
 . exact absurd h.1 dC
 . exact absurd h.1 dC
 . exact absurd h.1 dC
 . exact absurd h.1 dC
 . exact absurd h.1 dC
 exact⟨h.2.2.2.1,h.2.2.2.2.1⟩
theorem FP{w u:Y}(b:Ah w w u){a:Addr}{x:J}(h:w a=K x):u a=K x:=by rw[b.cell (i7 h)];exact h
theorem Vy(U:Y)(z:Int):∀j u,[(iZ z:J)][j]?=K u->(Ac U (Ak #[z] 2)) ((⟨U,0,M⟩:Addr).add j)=K u:= λj u a=>by rw[Cx,kT,(Ay.new U #[z] 2).cell j];simpa using a
def CG(D:DataW Unit)(b:List MI)(k:Nat):Prop:=∀z:Int,Go.Maps.has D (.int Af z)=(b.take k).any λx=>decide (x.op=28)&&decide (x.a=z)
theorem Me(D:DataW Unit)(a:Go.Maps.IsMap D)(z y:Int)(u:DataW Unit):Go.Maps.has (D.put (.int Af z) u) (.int Af y)=(Go.Maps.has D (.int Af y)||decide (z=y)):=by
 by_cases h:y=z
 . subst h;rw[Go.Maps.has_put_same a (show WideAt.IsKeyLit (Lit.int Af y)from trivial)];simp
 rw[Go.Maps.has_put_other (λe=>h (by cases e;rfl))];have:¬z=y:= λe=>h e.symm
 simp[this]
theorem CG.start(a:List MI):CG (.map []) a 0:= λz=>rfl
theorem CG.fk{b:List MI}{k:Nat}{x:MI}{u:DataW Unit}(h:CG D b k)(c:Go.Maps.IsMap D)(f:b[k]?=K x)(d:x.op=28):CG (D.put (.int Af x.a) u) b (k+1):= λz=>by obtain⟨e,rfl⟩:=f7.1 f;rw[Me D c,h z,kN e,List.any_append];simp[d]
theorem CG.no{a:List MI}{k:Nat}{x:MI}(h:CG D a k)(d:a[k]?=K x)(b:¬x.op=28):CG D a (k+1):= λz=>by obtain⟨c,rfl⟩:=f7.1 d;rw[h z,kN c,List.any_append];simp[b]
theorem pJ{x:MI}(h:x.wf):Fb x.a:=h.2.1
theorem nO{u:Y}{X:Nat}{a b c x3:J}{t:Aj}(h:Ay u X #[a,b,c,x3] t):u X=K a/\u ⟨X,1,M⟩=K b/\u ⟨X,2,M⟩=K c/\u ⟨X,3,M⟩=K x3:=⟨h.cell 0,h.cell 1,h.cell 2,h.cell 3⟩
theorem Nf(s:J)(f:List MI)(w:Y)(hn:f.length<=1048576)(P:∀x∈f,x.wf)(h:Rd w 4 s f.length (Ad MI.cells f)):
 Ai Aq 125 #[s] w λe S=>e=Am (.map (K w))/\(∃d D,d<= ↑f/\AP S w d D/\CG D f f)/\Ah w w S:=by
 have H:=Aw (fd h P);obtain⟨a1,c1,rfl⟩:=h.aP;clear h P;generalize L:f.length=n at hn H;have T:=Aw L;clear L;have aj:= @run_makeMap Aq;have v:Ae (∃d D,d<=0/\AP (Ac w (.map #[] 0)) w d D/\CG D f 0/\Ah w w (Ac w (.map #[] 0))):=⟨0,.map [],Nat.le_refl _,World.ownsMap_made _ _ _ _,CG.start f,Al _ _⟩
 go_enter func125,ntmps125;go_wp2;go_loopw [9] (λi wr=>∃k:Nat,k<=n/\i=iZ k/\Ae (∃d D,d<=k/\AP wr w d D/\CG D f k/\Ah w w wr)) (λi _=>n-(intOf i).toNat)
 case atStart=>exact⟨0,oM,rfl,v⟩
 clear v;obtain⟨k,hk,rfl,v⟩:=hrel;obtain⟨d,D,X,B,O,N⟩:=v.o;have l:=Aw (fd O (fd N (fd B (lU B))));clear B O N v;by_cases aa:k<n
 . obtain⟨x,p⟩:∃x,f[k]?=K x:=⟨_,an (by rw[T];exact aa)⟩;have A:=Aw (fd p (H.2 x (hC p)));rcases H.1.2 with⟨e0,_⟩|⟨g,o,c,G,y⟩
   . omega
   simp only[i8,kW]at G;obtain⟨rfl,rfl⟩:=G;have C:=Rd.elem MI.bW y k _ p 0 _ rfl;have E:=Rd.elem MI.bW y k _ p 1 _ rfl;have F:=Rd.elem MI.bW y k _ p 2 _ rfl;have x3:=Rd.elem MI.bW y k _ p 3 _ rfl;rw[<-l.2.1.cell (i7 C),jV]at C;rw[<-l.2.1.cell (i7 E)]at E;rw[<-l.2.1.cell (i7 F)]at F;rw[<-l.2.1.cell (i7 x3)]at x3;clear y p;have ai:(k:Int)<(n:Int):=oM;(go_upto_region 5 with fail);refine Av (λu=>Ae (AP u w d D/\Ay u wr #[iZ x.op,iZ x.a,iZ x.b,iZ x.c] 25/\Ah w w u)) ⟨l.2.2.1.av (Al _ _),Ay.new _ _ _,Ar l.2.1 lR (Al _ _)⟩ ?_
   intro m r;clear C E F x3;obtain⟨a0,U,V,W⟩:=nO r.2.1;by_cases z:x.op=28
   . rw[z]at a0;have t:=Aw (fd ((Ay.new m #[iZ x.a] 2).cell 0) (fd ((r.1.av (Al _ _)):AP (Ac m (Ak #[iZ x.a] 2)) w d D) (fd ((Ar r.2.2 lR (Al _ _)):Ah w w (Ac m (Ak #[iZ x.a] 2))) ((by have:=lg r.1;omega):¬(m:Nat)= ↑w))))
     go_wp2_with fail;refine(Dh w d m 1 D x.a _ (pJ A.2) oM t.1 t.2.2.2 t.2.1).mono ?_;rintro e R ⟨rfl,Q,I⟩;have q:Ae (∃d D,d<=k+1/\AP R w d D/\CG D f (k+1)/\Ah w w R):=⟨_,_,oM,Q,l.1.fk l.2.2.2 A.1 z,t.2.2.1.grown I t.2.2.1.size (λj hj=>by cases hj;exact Nat.le_refl _)⟩
     clear Q I a0 U V W;go_wp2;go_roundw;(case rel=>exact⟨k+1,oM,by go_num,q⟩);exact oI
   (have ae:(x.op==28)=false:=by simpa using z);have q:Ae (∃d D,d<=k+1/\AP m w d D/\CG D f (k+1)/\Ah w w m):=⟨_,_,oM,r.1,l.1.no A.1 z,r.2.2⟩
   go_wp2;go_roundw;(case rel=>exact⟨k+1,oM,by go_num,q⟩);exact oI
 obtain rfl:k=n:=oM;have q:=Aw (fd ((⟨d,D,X,l.2.2.1,l.1⟩):(∃d D,d<=k/\AP wr w d D/\CG D f k)) l.2.1)
 go_wp2;go_ret;exact⟨rfl,q.1,q.2⟩
theorem IG{α:Type}{l:List α}{h:α->α}{g:α}(c:g∈l.modify i h):∃a∈l,g=a\/g=h a:=by
 obtain⟨j,b⟩:=List.mem_iff_getElem?.1 c;rw[List.getElem?_modify]at b;cases ha:l[j]? with
 |none=>rw[ha]at b;cases b
 | some a=>
   rw[ha]at b;simp only[Option.map_eq_map,lw,jJ]at b;refine⟨a,hC ha,?_⟩;split at b
   . exact .inr b.symm
   exact .inl b.symm
theorem KT(H:∀g∈fs,g.small)(d:∀g,(h g).a7.length= ↑g.a7):∀g∈CQ fs h,g.small:= λg c=>by
 obtain⟨a,b,e|e⟩:=IG c
 . rw[e];exact H a b
 unfold MG.small;rw[e,d];exact H a b
theorem Oo:(CQ fs h).length=fs.length:=by unfold CQ;rw[List.length_modify]
theorem Pz{a b:Nat}(H:∀r∈cs,r.length<=1048576):∀r∈En cs a b v,r.length<=1048576:= λr d=>by
 obtain⟨q,c,e|e⟩:=IG d
 . rw[e];exact H q c
 rw[e,ki];exact H q c
theorem S8{a b:Nat}:(En cs a b v).length=cs.length:=by unfold En;rw[List.length_modify]
theorem UH{f:MF}{g:MG}{s:MS}{x:MI}(U:AX p 0)(e:s.small)(hK:s.stack.length<=64)(R:s.dk.length<=32):(Eb p f g s x).small:=by
 have j:∀q∈CQ s.dk (λh=>{h with at_:=g.at_+1}),q.small:=KT e.frame (λ_=>rfl);have T:(CQ s.dk (λh=>{h with at_:=g.at_+1})).length<=32:=by rw[Oo];exact R
 have V:(s.stack.take (↑s.stack-(AA p f x).length)).length<=64:=by rw[kp];omega
 have S:(s.stack.drop (↑s.stack-(AA p f x).length)).length<=64:=by rw[kZ];omega
 have W:∀c:MF,p.aB[x.a.toNat]?=K c->c.a7.length<=32:= λc y=>by have L:Cj c:=U.parts.2.2.1.2.2.1 _ (f7.1 y).1 c y;have:=L.loc;omega
 have k:∀(t:Int) (d:Bool) (c n:Int) (cs:List (List MC)) (stk:List MC) (w:List MG),cs.length<=1048576->(∀r∈cs,r.length<=1048576)->stk.length<=66->w.length<=33->(∀q∈w,q.small)->(⟨t,d,c,n,cs,stk,w⟩:MS).small:= λt d c n cs stk w A B X L Q=>⟨A,B,oS,oS,Q⟩
 unfold Eb;simp only[];generalize s.stack.take (s.stack.length-(AA p f x).length)=st at V⊢;generalize s.stack.drop (s.stack.length-(AA p f x).length)=ar at S⊢;generalize CQ s.dk (λh=>{h with at_:=g.at_+1})=l at j T⊢;have A:∀v:MC,(st++[v]).length<=66:= λv=>oT
 have B:∀v v':MC,(st++[v,v']).length<=66:= λv v'=>oT
 have N:∀h:MG->MG,(∀q,(h q).a7.length= ↑q.a7)->(CQ l h).length<=33/\∀q∈CQ l h,q.small:= λh z=>⟨by rw[Oo];omega,KT j z⟩
 have i:∀v:MC,(⟨s.trap,s.done,s.cost,s.steps,s.cells,st++[v],l⟩:MS).small:= λv=>k _ _ _ _ _ _ _ e.cells e.cell (A v) oM j
 have O:(⟨s.trap,s.done,s.cost,s.steps,s.cells,st,l⟩:MS).small:=k _ _ _ _ _ _ _ e.cells e.cell oM oM j;have u:∀h:MG->MG,(∀q,(h q).a7.length= ↑q.a7)->(⟨s.trap,s.done,s.cost,s.steps,s.cells,st,CQ l h⟩:MS).small:= λh z=>k _ _ _ _ _ _ _ e.cells e.cell oM (N h z).1 (N h z).2
 have P:∀a b v,(⟨s.trap,s.done,s.cost,s.steps,En s.cells a b v,st,l⟩:MS).small:= λa b v=>k _ _ _ _ _ _ _ (by rw[S8];exact e.cells) (Pz e.cell) oM oM j
 by_cases c0:x.op=0\/x.op=24
 . rw[jP c0];exact O
 rw[jH c0];by_cases c1:x.op=1
 . rw[jP c1];exact i _
 rw[jH c1];by_cases c2:x.op=2
 . rw[jP c2];exact i _
 rw[jH c2];by_cases c3:x.op=3
 . rw[jP c3];exact u _ (λq=>sP)
 rw[jH c3];by_cases c4:x.op=4
 . rw[jP c4];exact i _
 rw[jH c4];by_cases c5:x.op=5
 . rw[jP c5];exact P _ _ _
 rw[jH c5];by_cases c6:x.op=6
 . rw[jP c6];exact i _
 rw[jH c6];by_cases c7:x.op=7
 . rw[jP c7];exact P _ _ _
 rw[jH c7];by_cases C:x.op=16\/x.op=19
 . rw[jP C];exact i _
 rw[jH C];by_cases D:x.op=20\/x.op=21
 . rw[jP D];exact i _
 rw[jH D];by_cases E:8<=x.op/\x.op<=18
 . rw[jP E];exact i _
 rw[jH E];by_cases F:x.op=22
 . rw[jP F];exact i _
 rw[jH F];by_cases G:x.op=23
 . rw[jP G];exact k _ _ _ _ _ _ _ e.cells e.cell (B _ _) oM j
 rw[jH G];by_cases cD:x.op=25
 . rw[jP cD];exact u _ (λq=>rfl)
 rw[jH cD];by_cases cE:x.op=26
 . rw[jP cE];split
   . exact u _ (λq=>rfl)
   exact O
 rw[jH cE];by_cases H:x.op=27
 . rw[jP H];split
   . exact u _ (λq=>rfl)
   exact u _ (λq=>sP)
 rw[jH H];by_cases I:x.op=28
 . rw[jP I];refine k _ _ _ _ _ _ _ e.cells e.cell oM oT (λq m=> ?_);simp only[jL,jU]at m;rcases m with m|rfl
   . exact j q m
   unfold MG.small;simp only[jI];split
   . rename_i c y;have:=W c y;rw[kC];omega
   simp only[lH];omega
 rw[jH I];exact k _ _ _ _ _ _ _ e.cells e.cell oM oT (λq m=>e.frame q ((List.dropLast_sublist _).subset m))
structure Bp(R:Nat->Prop)(u u':Y):Prop where
 os:u'.os=u.os
 tape:u'.tape=u.tape
 output:u'.output=u.output
 size:(u:Nat)<= ↑u'
 block:∀k,k< ↑u->¬R k->u'.heap[k]?=u.heap[k]?
theorem Bp.of{u a:Y}(h:Ah u u a):Bp R u a:=⟨h.os,h.tape,h.output,h.size, λk b _=>h.block k b⟩
theorem Bp.refl(R:Nat->Prop)(u:Y):Bp R u u:=⟨rfl,rfl,rfl,Nat.le_refl _, λ_ _ _=>rfl⟩
theorem Bp.trans{g:Nat->Prop}{a b c:Y}(h:Bp R a b)(d:Bp g b c)(j:∀k,k< ↑a->g k->R k):Bp R a c:=⟨d.os.trans h.os,d.tape.trans h.tape,d.output.trans h.output,jN h.size d.size, λk f i=>(d.block k (lA f h.size) (λe=>i (j k f e))).trans (h.block k f i)⟩
theorem Bp.below{a b:Y}(h:Bp R a b)(e:B<= ↑a)(c:∀k,k<B->¬R k):Ah B a b:=⟨h.os,h.tape,h.output,h.size, λk d=>h.block k oM (c k d)⟩
theorem Bp.eP{a b:Y}(h:Bp R a b){g:Nat}{c:Array J}{ty:Aj}(d:Ay a g c ty)(e:¬R g):Ay b g c ty:=by unfold Ay at*;rw[h.block g (jS.1 d).1 e];exact d
theorem Bp.setCell{a b:Y}(h:Bp R a b){ad:Addr}(c:R ad.block\/ ↑a<=ad.block)(x:J):Bp R a (b.setCell ad x):=by
 refine⟨h.os,h.tape,h.output,by rw[lk];exact h.size, λk f d=> ?_⟩;have g:k≠ad.block:= λe=>by
  rcases c with c|c
  . exact d (e▸c)
  omega
 rw[Below.heap_setCell _ _ _ _ g];exact h.block k f d
theorem Bp.grown{a b c:Y}(h:Bp R a b){r:Option Nat}(d:b.grownBy c r)(i:∀k,k< ↑a->K k=r->R k):Bp R a c:=⟨d.os.trans h.os,d.tape.trans h.tape,d.output.trans h.output,jN h.size d.size, λk f g=>(d.block k (lA f h.size) (λe=>g (i k f e))).trans (h.block k f g)⟩
def Dt(X:VS)(C:List (J×List MC))(F:List (MG×J))(b:Nat):Prop:=X.c.ownBlock=K b\/X.k.ownBlock=K b\/X.f.ownBlock=K b\/(∃r∈C,r.1.ownBlock=K b)\/∃r∈Bm F,r.1.ownBlock=K b
theorem AB.ltOf{u:Y}{C:List (J×List MC)}{K:List MC}(h:AB u B X C K F){b:Nat}(a:Dt X C F b):B<=b/\b<u.heap.size:=by
 rcases a with a|a|a|⟨r,c,a⟩|⟨r,c,a⟩
 . exact h.cells.lt b a
 . exact(h.eT.own (X.k,K) sP).lt b a
 . exact h.dk.lt b a
 . exact(h.eT.own r (by simp only[jL];exact .inl (.inl c))).lt b a
 exact(h.eT.own r (by simp only[jL];exact .inr c)).lt b a
theorem Bp.own{u d:Y}(l:Bp R u d){e:Aj}{k n:Nat}{xs:List J}(h:Ab u B e k s n xs)(m:∀b,s.ownBlock=K b->¬R b):Ab d B e k s n xs:=by
 refine⟨h.1,?_⟩;rcases h.2 with i|⟨g,cap,f,a,j,c,p⟩
 . exact .inl i
 refine .inr ⟨g,cap,f,a,j,?_,p⟩;rw[l.block g (jS.1 c).1 (m g (by rw[a];rfl))];exact c
theorem AB.eX{u f:Y}{C:List (J×List MC)}{K:List MC}(h:AB u B X C K F)(d:Bp R u f)(e:∀b,Dt X C F b->¬R b):AB f B X C K F:=by
 refine⟨d.own h.cells (λb a=>e b (.inl a)),d.own h.dk (λb a=>e b (.inr (.inr (.inl a)))),⟨λr c=>d.own (h.eT.own r c) (λb a=>e b ?_),h.eT.sep⟩⟩;simp only[jL,jU]at c;rcases c with(c|rfl)|c
 . exact .inr (.inr (.inr (.inl ⟨r,c,a⟩)))
 . exact .inr (.inl a)
 exact .inr (.inr (.inr (.inr ⟨r,c,a⟩)))
theorem AB.gY{u:Y}{C:List (J×List MC)}{K:List MC}(h:AB u B X C K F){a:Addr}(d:¬Dt X C F a.block)(x:J):AB (u.setCell a x) B X C K F:=h.eX (R:= λj=>j=a.block) (Bp.setCell (R:= λj=>j=a.block) (Bp.refl _ u) (.inl rfl) x) (λb c e=>d (e▸c))
def Kz(k:Nat):Nat:=(#[95,96,97,98,99,100,101,102,103,103,103,103,103,103,103,103,104,103,103,104,105,105,106,107,108,109,110,111,112,113]:Array Nat).getD k 0
def oC(a k:Nat):J:=.func (.func (Kz k)) #[.pointer a] #[]
structure MCs(cur:Array J)(M:Nat)(t:Int)(d:Bool)(c n:Int)(X:VS)(hv:J):Prop where
 c0:cur[0]?=K (Ag Af t)
 c1:cur[1]?=K (Ao d)
 c2:cur[2]?=K (Ag Af c)
 c3:cur[3]?=K (Ag Af n)
 c4:cur[4]?=K X.c
 c5:cur[5]?=K X.k
 c6:cur[6]?=K X.f
 c7:cur[7]?=K hv
 rows:∀k v,BS[k]?=K v->cur[8+k]?=K v
 fN:∀k,k<30->cur[128+k]?=K (oC M k)
 size:cur.size=158
structure BF(u:Y)(M:Nat)(t:Int)(d:Bool)(c n:Int)(X:VS)(hv:J):Prop where
 eP:∃cur,Ay u M cur 87/\MCs cur M t d c n X hv
theorem BF.lt{u:Y}{c n:Int}(h:BF u a t d c n X e):a<u.heap.size:=by obtain⟨f,b,_⟩:=h.eP;exact b.lt
theorem BF.av{u e:Y}{c n:Int}{b:J}(h:BF u a t d c n X b)(j:Ah u.heap.size u e):BF e a t d c n X b:=by obtain⟨f,g,i⟩:=h.eP;exact⟨f,g.av j,i⟩
theorem BF.eX{u e:Y}{c n:Int}{b:J}(h:BF u a t d c n X b)(j:Bp R u e)(k:¬R a):BF e a t d c n X b:=by obtain⟨f,g,i⟩:=h.eP;exact⟨f,j.eP g k,i⟩
theorem BF.other{u:Y}{b:Nat}{c n:Int}(h:BF u b t d c n X e){a:Addr}(j:b≠a.block)(x:J):BF (u.setCell a x) b t d c n X e:=by obtain⟨f,g,i⟩:=h.eP;exact⟨f,g.other j x,i⟩
theorem BF.at{u:Y}{c n:Int}(h:BF u a t d c n X g):u.cell? ⟨a,0,M⟩=K (Ag Af t)/\u.cell? ⟨a,1,M⟩=K (Ao d)/\u.cell? ⟨a,2,M⟩=K (Ag Af c)/\u.cell? ⟨a,3,M⟩=K (Ag Af n)/\u.cell? ⟨a,4,M⟩=K X.c/\u.cell? ⟨a,5,M⟩=K X.k/\u.cell? ⟨a,6,M⟩=K X.f/\u.cell? ⟨a,7,M⟩=K g:=by obtain⟨i,b,e⟩:=h.eP;exact⟨(b.cell 0).trans e.c0,(b.cell 1).trans e.c1,(b.cell 2).trans e.c2,(b.cell 3).trans e.c3,(b.cell 4).trans e.c4,(b.cell 5).trans e.c5,(b.cell 6).trans e.c6,(b.cell 7).trans e.c7⟩
theorem BF.row{u:Y}{c n:Int}(h:BF u a t d c n X g)(k:Nat)(v:J)(f:BS[k]?=K v):u.cell? ⟨a,8+k,M⟩=K v:=by obtain⟨i,b,e⟩:=h.eP;exact(b.cell _).trans (e.rows k v f)
theorem BF.act{u:Y}{c n:Int}(h:BF u a t d c n X g)(k:Nat)(f:k<30):u.cell? ⟨a,128+k,M⟩=K (oC a k):=by obtain⟨i,b,e⟩:=h.eP;exact(b.cell _).trans (e.fN k f)
theorem BF.frozen{u:Y}{c n:Int}(h:BF u a t d c n X e)(i:Nat):u.frozen? ⟨a,i,M⟩=false:=by obtain⟨f,b,g⟩:=h.eP;exact b.frozen i
theorem AN{a:Array J}{j:Nat}{x v:J}(b:i≠j)(h:a[j]?=K v):(a.setIfInBounds i x)[j]?=K v:=by rw[Array.getElem?_setIfInBounds_ne b];exact h
theorem Gr{a:Array J}{x:J}(h:i<a.size):(a.setIfInBounds i x)[i]?=K x:=by simp[h]
theorem BF.jm{u:Y}{b:Nat}{c n:Int}{f:J}(h:BF u b t d c n X f)(z:Int):BF (Aa u ⟨b,0,M⟩ (Ag Af z)) b z d c n X f:=by obtain⟨j,g,a⟩:=h.eP;have i:=a.size;exact⟨_,g.set 0 _,Gr oM,AN oM a.c1,AN oM a.c2,AN oM a.c3,AN oM a.c4,AN oM a.c5,AN oM a.c6,AN oM a.c7, λk v e=>AN oM (a.rows k v e), λk e=>AN oM (a.fN k e),by simp[i]⟩
theorem BF.fI{u:Y}{b:Nat}{c n:Int}{f:J}(h:BF u b t d c n X f)(z:Bool):BF (Aa u ⟨b,1,M⟩ (Ao z)) b t z c n X f:=by obtain⟨j,g,a⟩:=h.eP;have i:=a.size;exact⟨_,g.set 1 _,AN oM a.c0,Gr oM,AN oM a.c2,AN oM a.c3,AN oM a.c4,AN oM a.c5,AN oM a.c6,AN oM a.c7, λk v e=>AN oM (a.rows k v e), λk e=>AN oM (a.fN k e),by simp[i]⟩
theorem BF.jp{u:Y}{b:Nat}{c n:Int}{f:J}(h:BF u b t d c n X f)(z:Int):BF (Aa u ⟨b,2,M⟩ (Ag Af z)) b t d z n X f:=by obtain⟨j,g,a⟩:=h.eP;have i:=a.size;exact⟨_,g.set 2 _,AN oM a.c0,AN oM a.c1,Gr oM,AN oM a.c3,AN oM a.c4,AN oM a.c5,AN oM a.c6,AN oM a.c7, λk v e=>AN oM (a.rows k v e), λk e=>AN oM (a.fN k e),by simp[i]⟩
theorem BF.jF{u:Y}{b:Nat}{c n:Int}{f:J}(h:BF u b t d c n X f)(z:Int):BF (Aa u ⟨b,3,M⟩ (Ag Af z)) b t d c z X f:=by obtain⟨j,g,a⟩:=h.eP;have i:=a.size;exact⟨_,g.set 3 _,AN oM a.c0,AN oM a.c1,AN oM a.c2,Gr oM,AN oM a.c4,AN oM a.c5,AN oM a.c6,AN oM a.c7, λk v e=>AN oM (a.rows k v e), λk e=>AN oM (a.fN k e),by simp[i]⟩
theorem BF.iO{u:Y}{b:Nat}{c n:Int}{f:J}(h:BF u b t d c n X f)(z:J):BF (Aa u ⟨b,5,M⟩ (z)) b t d c n {X with k:=z} f:=by obtain⟨j,g,a⟩:=h.eP;have i:=a.size;exact⟨_,g.set 5 _,AN oM a.c0,AN oM a.c1,AN oM a.c2,AN oM a.c3,AN oM a.c4,Gr oM,AN oM a.c6,AN oM a.c7, λk v e=>AN oM (a.rows k v e), λk e=>AN oM (a.fN k e),by simp[i]⟩
theorem BF.jc{u:Y}{b:Nat}{c n:Int}(h:BF u b t d c n X g)(z:J):BF (Aa u ⟨b,6,M⟩ (z)) b t d c n {X with f:=z} g:=by obtain⟨l,i,a⟩:=h.eP;have j:=a.size;exact⟨_,i.set 6 _,AN oM a.c0,AN oM a.c1,AN oM a.c2,AN oM a.c3,AN oM a.c4,AN oM a.c5,Gr oM,AN oM a.c7, λk v e=>AN oM (a.rows k v e), λk e=>AN oM (a.fN k e),by simp[j]⟩
theorem GY{u:Y}{c n:Int}{X b:VS}{C:List (J×List MC)}{K:List MC}{g x:J}(h:AB u B X C K F)(f:BF u a t d c n b g):AB (Aa u ⟨a,i,M⟩ x) B X C K F:=by obtain⟨j,e,_⟩:=f.eP;exact h.other e dC dC dC i x
theorem Dt.stack{a s' x3:J}{C:List (J×List MC)}{b:Nat}(h:Dt ⟨a,s,x3⟩ C F b)(e:s.ownBlock=s'.ownBlock):Dt ⟨a,s',x3⟩ C F b:=by
 rcases h with h|h|h|h|h
 . exact .inl h
 . exact .inr (.inl (e▸h))
 . exact .inr (.inr (.inl h))
 . exact .inr (.inr (.inr (.inl h)))
 exact .inr (.inr (.inr (.inr h)))
def Top(E:Nat->List Nat)(n:Nat)(P:Nat->Bool)(I:List Nat)(f:Nat)(pl:Nat->Nat):Prop:=∀a b x,Js P n a->Js P n b->x∈E b->Js P n x->jf I x≠jf I b->jf I x≠f->jf I x=jf I a->pl b<pl a
structure WQ(E:Nat->List Nat)(n:Nat)(P:Nat->Bool)(I:List Nat)(C:List Int)(f:Nat)(pl:Nat->Nat)(L:List Int)(k q:Nat):Prop where
 len: ↑L=n
 gu:∀y∈L,Ks y
 hd:cf L f=cf C f
 le:∀t,YO E (Js P n) (jf I) f (cf C) t->(∀b,Js P n b->0<=t (jf I b))->∀b,Js P n b->cf L (jf I b)<=t (jf I b)
 cl:Top E n P I f pl->∀b x,(pl b<k\/pl b=k/\x∈(E b).take q)->Js P n b->x∈E b->Js P n x->jf I x≠jf I b->jf I x≠f->cf L (jf I b)+cf C (jf I x)<=cf L (jf I x)
section
variable {E:Nat->List Nat} {n:Nat} {P:Nat->Bool} {I:List Nat} {C:List Int} {f:Nat} {pl:Nat->Nat} {L:List Int} {k q b x:Nat}
theorem GN(h:∀y∈L,Ks y)(c:Nat):Ks (cf L c):=by
 unfold cf;rw[jQ];cases e:L[c]? with
 |none=>exact⟨sP,sP⟩
 |some y=>exact h y (hC e)
theorem WM(h:x< ↑L):L[x]?=K (cf L x):=by rw[an h];exact congrArg K (KG (an h)).symm
theorem Mr(h:y∈L.set x z):y∈L\/y=z:=lP h
theorem WQ.start(i:f<n)(g:Ks (cf C f)):WQ E n P I C f pl ((List.replicate n (0:Int)).set f (cf C f)) 0 0:=by
 have a:(List.replicate n (0:Int))[f]?=K 0:=by rw[List.getElem?_replicate,jP i]
 have m:∀c,cf (List.replicate n (0:Int)) c=0:= λc=>by
  unfold cf;rw[jQ,List.getElem?_replicate];by_cases e:c<n
  . rw[jP e];rfl
  rw[jH e];rfl
 refine⟨sP, λy l=> ?_,by rw[Hn a,jP rfl], λt ht j b d=> ?_, λ_ b x k=> ?_⟩
 . rcases Mr l with h|rfl
   . obtain rfl:=(List.mem_replicate.1 h).2;exact⟨sP,sP⟩
   exact g
 . rw[Hn a];by_cases e:jf I b=f
   . rw[jP e,e,ht.hd];exact Int.le_refl _
   rw[jH e,m];exact j b d
 rcases k with h|⟨_,h⟩
 . omega
 simp at h
theorem WQ.jx(h:WQ E n P I C f pl L k 0)(d:∀b,b<n->pl b=k->P b=false):WQ E n P I C f pl L (k+1) 0:=
 ⟨h.len,h.gu,h.hd,h.le, λT b x a c=>by
  rcases a with a|⟨_,a⟩
  . by_cases e:pl b=k
    . have:=d b c.1 e;rw[c.2]at this;cases this
    exact h.cl T b x (.inl oM) c
  simp at a⟩
theorem WQ.jn(h:WQ E n P I C f pl L k q)(g:∀b,b<n->pl b=k->(E b).length<=q):WQ E n P I C f pl L (k+1) 0:=
 ⟨h.len,h.gu,h.hd,h.le, λT b x a c d=>by
  rcases a with a|⟨_,a⟩
  . by_cases e:pl b=k
    . exact h.cl T b x (.inr ⟨e,by rw[kP (g b c.1 e)];exact d⟩) c d
    exact h.cl T b x (.inl oM) c d
  simp at a⟩
theorem WQ.gM(h:WQ E n P I C f pl L k q)(m:∀c,c<n->pl c=k->c=b)(r:(E b)[q]?=K x)(p:¬(Js P n x/\jf I x≠jf I b/\jf I x≠f)):WQ E n P I C f pl L k (q+1):=
 ⟨h.len,h.gu,h.hd,h.le, λT c y a i l j d g=>by
  rcases a with a|⟨e,a⟩
  . exact h.cl T c y (.inl a) i l j d g
  have:=m c i.1 e;subst this;rw[List.take_add_one,r,jL]at a;rcases a with a|a
  . exact h.cl T c y (.inr ⟨e,a⟩) i l j d g
  simp at a;subst a;exact absurd ⟨j,d,g⟩ p⟩
theorem WQ.over(h:WQ E n P I C f pl L k q)(B:∀a,a<n->pl a=k->a=b)(i:Js P n b)(R:pl b=k)(u:(E b)[q]?=K x)(l:Js P n x)(s:jf I x≠jf I b)(g:jf I x≠f)(H:jf I x<n)(Q:0<=cf C (jf I x))(O:max (cf L (jf I x)) (cf L (jf I b)+cf C (jf I x))<=4294967295):WQ E n P I C f pl (L.set (jf I x) (max (cf L (jf I x)) (cf L (jf I b)+cf C (jf I x)))) k (q+1):=by
 have d:=WM (L:=L) (x:=jf I x) (by rw[h.len];exact H);have v:x∈E b:=hC u;have F:=GN h.gu (jf I x);refine⟨by simp[h.len], λy r=> ?_,by rw[Hn d,jH (Ne.symm g)];exact h.hd, λt ht m a D=> ?_, λT a y c j r G z A=> ?_⟩
 . rcases Mr r with e|rfl
   . exact h.gu y e
   exact⟨by have:=F.1;omega,O⟩
 . rw[Hn d];by_cases e:jf I a=jf I x
   . rw[jP e,e];have S:=h.le t ht m b i;have U:=ht.ed b x i v l s g;have V:=h.le t ht m x l;omega
   rw[jH e];exact h.le t ht m a D
 have p:(pl a<k\/pl a=k/\y∈(E a).take q)\/(a=b/\y=x):=by
  rcases c with c|⟨e,c⟩
  . exact .inl (.inl c)
  have w:=B a j.1 e;subst w;rw[List.take_add_one,u,jL]at c;rcases c with c|c
  . exact .inl (.inr ⟨e,c⟩)
  simp at c;exact .inr ⟨rfl,c⟩
 rw[Hn d,Hn d];have N:jf I a≠jf I x:= λe=>by have:=T a b x j i v l s g e.symm;rcases c with c|⟨e,_⟩<;>omega
 rw[jH N];rcases p with p|⟨rfl,rfl⟩
 . have:=h.cl T a y p j r G z A;by_cases e:jf I y=jf I x
   . rw[jP e];rw[e]at this⊢;omega
   rw[jH e];exact this
 rw[jP rfl];omega
theorem WQ.bad(h:WQ E n P I C f pl L k q)(a:Js P n b)(i:(E b)[q]?=K x)(c:Js P n x)(d:jf I x≠jf I b)(e:jf I x≠f)(l:¬max (cf L (jf I x)) (cf L (jf I b)+cf C (jf I x))<=4294967295):∀t,YO E (Js P n) (jf I) f (cf C) t->(∀b,Js P n b->0<=t (jf I b))->∃b,Js P n b/\4294967295<t (jf I b):= λt ht g=>by have m:=h.le t ht g b a;have p:=ht.ed b x a (hC i) c d e;have j:=GN h.gu (jf I x);have r:=j.2;exact⟨x,c,oM⟩
def oz(E:Nat->List Nat)(n:Nat)(P:Nat->Bool)(I:List Nat)(C:List Int)(f:Nat)(pl:Nat->Nat)(L:List Int)(small:Bool):Prop:=(small=true/\∃k,WQ E n P I C f pl L k 0/\∀b,b<n->pl b<k)\/(small=false/\∀t,YO E (Js P n) (jf I) f (cf C) t->(∀b,Js P n b->0<=t (jf I b))->∃b,Js P n b/\4294967295<t (jf I b))
theorem oz.pass{D:Nat->Nat->Bool}{p:Nat->Prop}(g:Iq E n pl D)(s:Na E n D p (jf I))(r:YR E n D p (jf I) (Js P n) f)(u:∀c,0<=cf C c)(h:oz E n P I C f pl L true):Wy E (Js P n) (jf I) f (cf C) (cf L):=by
 rcases h with⟨_,k,h,w⟩|⟨e,_⟩
 . (have T:Top E n P I f pl:= λa b x v d l m i j q=>r.jD g s v d l m i j q);exact⟨⟨⟨h.hd, λb x d l m i j=>h.cl T b x (.inl (w b d.1)) d l m i j⟩, λt ht b d=>h.le t ht (λb d=>ht.gW g r u d) b d⟩, λb d=>(GN h.gu _).2⟩
 cases e
theorem oz.gZ{D:Nat->Nat->Bool}{a:Nat->Prop}(g:Iq E n pl D)(r:YR E n D a (jf I) (Js P n) f)(d:∀c,0<=cf C c)(h:oz E n P I C f pl L false):OS E (Js P n) (jf I) f (cf C):= λt ht=>by
 rcases h with⟨e,_⟩|⟨_,h⟩
 . cases e
 exact h t ht λb i=>ht.gW g r d i
end
theorem Pm{C:List Int}{k:Nat}:(Ad As C).set k c=Ad As (C.set k c):=by
 induction C generalizing k with
 |nil=>rfl
 | cons y r a=>
   cases k with
   |zero=>rfl
   | succ k=>rw[kU,ke,ke];show As y++_=_;rw[<-a];rfl
theorem Rk{P:Int->Prop}{L:List Int}{k:Nat}(h:∀x∈L,P x)(a:P c):∀x∈L.set k c,P x:= λx b=>by
 rcases lP b with e|e
 . exact h x e
 subst e;exact a
section
variable {w u0 u:Y} {G n:Nat} {x:GV} {bad:Bool} {I:List Nat} {C:List Int} {gn cn:Nat} {P:Nat->Bool} {gB:Nat} {L:List Int}
end
theorem Yk(n:Nat):(madeCells (Ag Af 0).cells (n*1)).toList=Ad As (List.replicate n (0:Int)):=by
 rw[Mo n (λ_=>[]) []];simp[CK,List.flatten_replicate_singleton];induction n with
 |zero=>rfl
 |succ n a=>rw[my,my,ke,<-a];rfl
end Go.Proofs.YtkgohaigebcgoaaGreatDoor
