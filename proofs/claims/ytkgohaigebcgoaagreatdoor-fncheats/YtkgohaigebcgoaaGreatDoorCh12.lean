import Derived.Test.YtkgohaigebcgoaaGreatDoorCh11
namespace Go.Proofs.YtkgohaigebcgoaaGreatDoor
open Go.ChangeShapes Go.WideShapes Go.ChangeAt Go.RowKit Go.Proofs.Tryz
set_option linter.unusedVariables false
open Go renaming Value → J,World → Y,Calls → Ai,TypeId → Aj
open Go.RowKit renaming Hid → Ae,Below → Ah
open Go.Value renaming agg → An,slice → Z,int → Ag,bool → Ao,tuple → Ap
open Go.Proofs.Tryz renaming prog → Aq
open Option renaming some → K,none → M
open Go.IntKind renaming i64 → Af
open Go.World renaming setCell → Aa,ownsRow → Ab,alloc → Ac
open List renaming flatMap → Ad
open Go.Obj renaming cells → Ak
open Go.Ending renaming returned → Am
set_option maxHeartbeats 8000000
set_option maxRecDepth 100000
variable {xs:List MI}{D:List (MB×J)}{B a i:Nat}{y c z t:Int}{g e s:J}{d:Bool}{F:List (MG×J)}{fs:List MG}{h:MG->MG}{cs:List (List MC)}{v:MC}{p:MP}{R:Nat->Prop}{X:VS}
theorem Pw(a b:ML)(g j d f:J)(w:Y)(F:a.back.length<=1048576/\a.a7.length<=1048576)(G:b.back.length<=1048576/\b.a7.length<=1048576)(h:M3 w (a,g,j))(E:M3 w (b,d,f)):
 Ai Aq 30 #[An #[a.head,g,j],An #[b.head,d,f]] w λe R=>AM e (a=b)/\Ah w w R:=by
 have H:Ae (M3 w (a,g,j)/\M3 w (b,d,f)/\(a.back.length<=1048576/\a.a7.length<=1048576)/\b.back.length<=1048576/\b.a7.length<=1048576):=⟨h,E,F,G⟩
 clear h E F G;have v:=Bw w #[a.head,g,j] #[b.head,d,f] 65 65;go_enter func30,ntmps30;go_upto_region 1 with fail
 refine Av (λu=>Ay u w #[a.head,g,j] 65/\Ay u ((w:Nat)+1) #[b.head,d,f] 65/\Ah w w u) v ?_
 rintro U y;clear v;have c:Ae (Ay U w #[a.head,g,j] 65/\Ay U ((w:Nat)+1) #[b.head,d,f] 65/\Ah w w U):=y
 clear y;obtain⟨l,s,t⟩:=CI c.1;obtain⟨n,p,r⟩:=CI c.2.1;by_cases q:a.head=b.head
 . have O:Ae (a.head=b.head):=q;rw[q]at l;clear q;go_wp2_with fail;refine(Fz g d a.back b.back U H.2.2.1.1 H.2.2.2.1 (H.1.1.av c.2.2 lR) (H.2.1.1.av c.2.2 lR)).mono ?_;rintro e m ⟨⟨B,rfl,I⟩,S,C⟩;have k:Ae (Ay m w #[a.head,g,j] 65/\Ay m ((w:Nat)+1) #[b.head,d,f] 65/\Ah w w m):=by subst C;exact⟨c.1.av (AL _ _ _),c.2.1.av (AL _ _ _),Ar c.2.2 lR (AL _ _ _)⟩
   have z:Ae (B=true↔a.back=b.back):=I;clear c l s t n p r C I;obtain⟨l,s,t⟩:=CI k.1;obtain⟨n,p,r⟩:=CI k.2.1;cases B
   . go_wp2;go_ret;exact⟨.no (λe=>by have:=z.2 ((ML.jn a b).1 e).2.1;simp at this),k.2.2⟩
   go_wp2_with fail;refine(Fz j f a.a7 b.a7 m H.2.2.1.2 H.2.2.2.2 (H.1.2.av k.2.2 lR) (H.2.1.2.av k.2.2 lR)).mono ?_;rintro e Q ⟨⟨P,rfl,L⟩,T,D⟩;(have N:Ae (Ah w w Q):=by subst D;exact Ar k.2.2 lR (AL _ _ _));have A:Ae (P=true↔a.a7=b.a7):=L;clear k l s t n p r D L;go_wp2;go_ret;exact⟨.of ⟨λe=>(ML.jn a b).2 ⟨O,z.1 (by first|rfl|trivial),A.1 e⟩, λe=>A.2 ((ML.jn a b).1 e).2.2⟩,N⟩
 go_wp2;go_ret;exact⟨.no λe=>q ((ML.jn a b).1 e).1,c.2.2⟩
def UY(xs:List MI)(m:MB):MB:=⟨m.cz,m.last,Bc xs (xs.getD m.last.toNat ⟨0,0,0,0⟩) m.last.toNat⟩
def K4(xs:List MI):List MB:=(K5 xs xs).map (UY xs)
theorem Hu(xs:List MI):(K4 xs).length=(CY xs xs).length:=by unfold K4;rw[mQ,FO]
theorem Qh(L:List Nat)(n b a q:Nat)(c:L[b]?=K a)(d:(L++[n])[b+1]?=K q):(build L n)[b]?=K ⟨(a:Int),(q:Int)-1,[]⟩:=by
 unfold build;rw[oR,c];have e:(L.tail++[n])[b]?=K q:=by
  cases L with
  |nil=>simp at c
  |cons y r=>simpa using d
 rw[e]
def z3:List J:=[iZ 0,iZ 0,sN]
structure IW(w u:Y)(xs:List MI)(gl cl bl j:Nat)(D:List (MB×J)):Prop where
 row:Ab u w 97 3 (sG bl (CY xs xs).length (CY xs xs).length) (CY xs xs).length ((List.replicate j z3).flatten++Ad Dj D)
 fg:CO u w ((sG gl (CY xs xs).length cl,(CY xs xs).map Int.ofNat)::Dt D)
 done:D.map Prod.fst=(K4 xs).drop j
 cq:Ah w w u
theorem IW.lead{w u:Y}{a cl b j:Nat}(h:IW w u xs a cl b j D):Ab u w 2 1 (sG a (CY xs xs).length cl) (CY xs xs).length (Ad At ((CY xs xs).map Int.ofNat)):=by have:=h.fg.own _ (nG);simpa using this
theorem CO.av{u a:Y}{L:List (J×List Int)}(h:CO u B L)(b:Ah u u a):CO a B L:=⟨λr c=>AD (h.own r c) b lR,h.sep⟩
theorem CO.add{u d:Y}{y:J×List Int}{L:List (J×List Int)}{b:J}{c:List Int}(h:CO u B (y::L))(j:Ah u u d)(k:Ab d u 2 1 b c (Ad At c))(l:B<= ↑u):CO d B (y::(b,c)::L):=by
 have f:∀r∈y::L,Kf (b,c) r:=by intro r a g m e;have q:=k.lt g m;have s:=(h.own r a).lt g e;omega
 obtain⟨n,p⟩:=my.1 h.sep;refine⟨?_,my.2 ⟨?_,my.2 ⟨λr a=>f r (by simp[a]),p⟩⟩⟩
 . intro r a;simp only[lW]at a;rcases a with rfl|rfl|a
   . exact AD (h.own _ sP) j lR
   . exact BG k l
   exact AD (h.own r (by simp[a])) j lR
 intro r a;simp only[lW]at a;rcases a with rfl|a
 . exact(f y sP).symm
 exact n r a
theorem CO.j8{w:Y}{base g:Nat}{L:List (J×List Int)}{a k n c:Nat}{xs:List J}(h:CO w base L)(b:Ab w a 97 k (sG g n c) n xs)(i:Nat)(x:J):CO (Aa w ⟨g,i,M⟩ x) base L:=⟨λy d=>Mu (h.own y d) b dC i x,h.sep⟩
theorem ZP(A R:List J)(a b c c0 c1 c2:J)(i:Nat)(h: ↑A=i):(((A++([a,b,c]++R)).set i c0).set (i+1) c1).set (i+2) c2=A++([c0,c1,c2]++R):=by subst h;simp[List.set_append_right]
theorem RK(b:Nat)(R:List J):(List.replicate (b+1) z3).flatten++R=(List.replicate b z3).flatten++(z3++R):=by rw[List.replicate_succ'];simp
theorem Tp(b:Nat):(List.replicate b z3).flatten.length=b*3:=by rw[List.length_flatten];simp[z3]
theorem IW.next{w wr u:Y}{k cl c b a q e:Nat}{x:MI}{ar:Option Addr}{d:Nat}(h:IW w wr xs k cl c (b+1) D)(f:Ah wr wr u)(A:Ab u wr 2 1 (Z ar (Bc xs x e).length d) (Bc xs x e).length (Ad At (Bc xs x e)))(l:(CY xs xs)[b]?=K a)(z:(CY xs xs++[xs.length])[b+1]?=K q)(t:(q:Int)-1=(e:Int))(B:xs[e]?=K x):
 IW w (Aa (Aa (Aa u ⟨c,b*3,M⟩ a) ⟨c,b*3+1,M⟩ e) ⟨c,b*3+2,M⟩ (Z ar (Bc xs x e).length d)) xs k cl c b ((⟨(a:Int),(e:Int),Bc xs x e⟩,Z ar (Bc xs x e).length d)::D):=by
 have j:=AD h.row f lR;have m:=(j.stored (b*3) a).1;have n:=(m.stored (b*3+1) e).1;have p:=(n.stored (b*3+2) (Z ar (Bc xs x e).length d)).1;rw[RK,show z3++Ad Dj D=[Ag Af 0,iZ 0,sN]++Ad Dj D from rfl,ZP _ _ _ _ _ _ _ _ _ (Tp b)]at p;have g:=(AZ j).1;have y:=Qh _ _ _ _ _ l z;refine⟨?_,?_,?_,(((Ar h.cq lR f).setCell g _).setCell g _).setCell g _⟩
 . rw[mv];exact p
 . have f0:=CO.add h.fg f A h.cq.size;exact((f0.j8 j _ _).j8 m _ _).j8 n _ _
 have v:b<(K4 xs).length:=by rw[Hu];exact(f7.1 l).1
 rw[nh,h.done,oG v];congr 1
 have r:(K4 xs)[b]?=K (UY xs ⟨(a:Int),(q:Int)-1,[]⟩):=by unfold K4;rw[mN,Cu,y];rfl
 have s:=(f7.1 r).2;rw[s];unfold UY;rw[t,lV,mI,B];rfl
structure GV where
 fc:Int
 fa:Int
 gb:Nat
 ob:Nat
 cb:Nat
 go:Nat
 oo:Nat
 co:Nat
 vi:J
 vl:J
 gi:Nat
 ci:Nat
 gc:Nat
 cc:Nat
def Kh(x:Int):Prop:=0<=x/\x<=4294967295
structure GF(w:Y)(n:Nat)(x:GV)(E:Nat->List Nat)(O:List Nat):Prop where
 gr:RZ w x.gb x.ob n E
 ord:∀k y:Nat,O[k]?=K y->w ⟨x.go,x.oo+k,M⟩=K ↑(y:Int)
 ol: ↑O=n
 ob:∀y∈O,y<n
 eb:∀b,b<n->∀y∈E b,y<n
 sz:∀b,(E b).length<=2
theorem Ek{u:Y}{B g b k n c i:Nat}{e:Aj}{xs:List J}{z:J}(h:Ab u B e k (sG g n c) n xs)(d:g≠b):Ab (Aa u ⟨b,i,M⟩ z) B e k (sG g n c) n xs:=mR h (a:=⟨b,i,M⟩) (λe=>d (by simpa[Value.ownBlock]using e)) z
theorem EW{C:List Int}{b:Nat}(h:C[b]?=K y):(Ad At C)[b]?=K ↑y:=by
 have:Ad At C=C.map (Ag Af):=by
  induction C generalizing b with
  |nil=>rfl
  | cons x r a=>
    have:List.flatMap At r=List.map (Ag Af) r:=by
     clear a h;induction r with
     |nil=>rfl
     |cons x r a=>rw[mv,a];rfl
    rw[mv,this];rfl
 rw[this,mN,h];rfl
def tC:J->Nat
 |.slice _ n _=>n
 |_=>0
theorem Pb (G n F P A N B u C D:Nat)(E:Nat->List Nat)(O:List Nat)(w:Y)(hn:n<=1024)(hP:EU E n (DY O))(hO: ↑O=n)(aR:O.Nodup)(aE:∀x,x∈O↔x<n)(bf:∀b,(Bo E n b).length<=4096)
 (bJ:n<=u) (h:Ay w G #[sG F n P,sG A n N,sG B n u,sG C n D,sN] 101) (hF:Gb w A 0 n (Bo E n)) (aS:∀k x:Nat,O.reverse[k]?=some x->w ⟨B,k,M⟩=some ↑(x:Int)) (aT:∀x,x<n->w ⟨C,x,M⟩=some ↑(DY O x:Int))
 (aq:F≠G/\A≠G/\B≠G/\C≠G/\∀b a c,b<n->w ⟨A,b,M⟩=some (Z (some a) (Bo E n b).length c)->a.block≠G):
 Ai Aq 25 #[.pointer G] w λe w'=>e=Am (Ap #[])/\∃t I,DW w w' G n #[sG F n P,sG A n N,sG B n u,sG C n D] t I/\PU E n (DY O) I:=by
 obtain⟨K0,aQ⟩:=Vv E n;obtain⟨K,bH,hK⟩:∃K,1<=K/\∀e,e<n->∀x,x<n->DA E (· ≠e) 0 x->FQ E (· ≠e) 0 K x:=⟨K0+1,oM, λe he x g hr=>(aQ e he x g hr).mono oM⟩
 have H:=Aw (lN h (lN hF (lN aS (lN aT aq))));have r:=Aw (lN hP (lN aR (lN aE (lN bf (lN hK ((λx g=>by have:=rK ((aE x).2 g);omega):(∀x,x<n->DY O x<n)))))));have br:=hP.pos;have aO:=h.lt;clear h hF aS aT aq hP aR aE bf hK aQ;have c0:(Ac w (Ak #[iZ (-1)] 2)) G=some (sG F n P):=(H.1.av (Al _ _)).cell 0;go_enter func25,ntmps25;go_wp2_with fail;refine(Tb w n _ br hn ((Ay.new w #[iZ (-1)] 2).cell 0)).mono ?_;rintro e u1 ⟨t,rfl,aH,b1⟩;rw[rZ]at aH;have bA:=Al w (Ak #[iZ (-1)] 2);have k1:=(H.1.av bA).av b1;have d4:u1 ⟨G,4,M⟩=some sN:=k1.cell 4;have z4:=k1.frozen 4;have aI:Ae (DW w (Aa u1 ⟨G,4,M⟩ (sG t n n)) G n #[sG F n P,sG A n N,sG B n u,sG C n D] t (λ_=> -1)):=by
  have aF:Ah w w u1:=Ar bA lR b1;have bg:=BG aH (b:=w) bA.size;have Q:=(AZ bg).1;refine⟨⟨_,_,_,_,rfl,?_⟩,mR bg (a:=⟨G,4,M⟩) (by simp[Value.ownBlock];omega) _, λk hk aq=> ?_,(aF.mono (oq aO)).setCell lR _,by rw[oN];exact aF.size,aO⟩
  . have:=k1.set 4 (sG t n n);simpa using this
  rw[oJ u1 _ k _ aq];exact aF.block k hk
 clear aH b1 bA k1 c0;have ai:Ae (Km E n (DY O) 0 1 (λ_=> -1)):=⟨Jc.start (λ_=>rfl),M7.start r.1 (λ_=>rfl), λx g hl=>by
  by_cases e:x=0
  . exact .inl e
  have:=r.1.cz x g e;omega,.inl rfl,rfl⟩
 go_wp2;go_loopg [2] (K+2) (λm v wr=>∃(s:Bool) (I:Nat->Int) (k:Nat),v=Ao s/\Ae (DW w wr G n #[sG F n P,sG A n N,sG B n u,sG C n D] t I)/\((s=true/\m+k=K+2/\k<=K/\Ae (Km E n (DY O) k 1 I))\/(s=false/\Ae (PU E n (DY O) I))))
 case atStart=>exact⟨true, λ_=> -1,0,rfl,aI,.inl ⟨rfl,rfl,oM,ai⟩⟩
 clear aI ai d4 z4;obtain⟨s,I0,k,rfl,HD,bi⟩:=hrel;rcases bi with⟨rfl,hm,bP,ai⟩|⟨rfl,au⟩
 . obtain ⟨w0,bt⟩:∃W,W=wr:=⟨_,rfl⟩;subst bt;(have o2:w0 ⟨G,2,M⟩=some (sG B n u):=by obtain⟨x0,x1,x2,x3,e,kk⟩:=HD.eI;simp only[Array.mk.injEq,ov,oZ]at e;obtain⟨rfl,rfl,rfl,rfl⟩:=e;exact kk.cell 2);(go_upto_region 4 with fail);go_cut [21,22,23]from 17 to 22 (λsv lv iv wx=>∃a c,sv=Z a (n-1) c/\(1<n->a=some ⟨B,1,M⟩)/\lv=iZ ((n-1:Nat):Int)/\iv=iZ 0/\wx=w0)
   case first=>
    by_cases aG:u=1
    . subst aG;obtain rfl:n=1:=oM;go_wp2;go_meet;exact⟨_,_,rfl, λq=>oM,rfl,rfl,rfl⟩
    have aW:1<u:=oM;go_wp2;go_meet;exact⟨_,_,rfl, λq=>rfl,by go_num,rfl,rfl⟩
   case rest=>
    obtain⟨bB,bC,rfl,ha,rfl,rfl,ae⟩:=hcut;rw[ae];clear ae o2;have aJ:Ae (∀(U:Y) (f:Nat->Int),DW w U G n #[sG F n P,sG A n N,sG B n u,sG C n D] t f->GI U G n C D t n (DY O) f/\U ⟨G,1,M⟩=some (sG A n N)):= λU f hU=>by obtain⟨x0,x1,x2,x3,e,kk⟩:=hU.eI;simp only[Array.mk.injEq,ov,oZ]at e;obtain⟨rfl,rfl,rfl,rfl⟩:=e;refine⟨⟨kk.cell 3,kk.cell 4, λx g=>hU.cell (H.2.2.2.1 x g) H.2.2.2.2.2.2.2.1, λx g=> ?_⟩,kk.cell 1⟩;have:=hU.row.cellAt x oM;rw[RP _ _ _ g]at this;exact this
    go_wp2;go_loopw [2,23] (λv i wr=>∃(s:Bool) (f:Nat->Int) (j:Nat),v=Ao s/\i=iZ (j:Int)/\j+1<=n/\Ae (DW w wr G n #[sG F n P,sG A n N,sG B n u,sG C n D] t f/\Km E n (DY O) k (j+1) f/\(s=false->f=I0/\∀b,b<n->b≠0->DY O b<j+1->Be n f (Bo E n b) (f b))/\(K<=k->s=false))) (λ_ i _=>n-(intOf i).toNat)
    (case atStart=>exact⟨false,I0,0,rfl,rfl,oM,HD,ai, λ_=>⟨rfl, λb L V hl=>by have:=r.1.cz b L V;omega⟩, λ_=>rfl⟩);obtain⟨s,f,j,rfl,rfl,hj,l⟩:=hrel;by_cases bQ:j<n-1
    . have bq:(j:Int)<((n-1:Nat):Int):=oM;obtain rfl:=ha oM;obtain⟨b,L⟩:∃b,O.reverse[j+1]?=some b:=⟨_,an (by rw[nP];omega)⟩;have aj:b∈O:=nL.1 (lP L);have X:b<n:=(r.2.2.1 b).1 aj;have bI:(b:Int)<(n:Int):=oM;(have aZ:DY O b=j+1:=by have h1:=Hx aj;have hd:O.reverse.Nodup:=List.pairwise_reverse.2 (r.2.1.imp Ne.symm);obtain⟨l1,e1⟩:=f7.1 h1;obtain⟨l2,e2⟩:=f7.1 L;exact(List.getElem_inj hd).1 (e1.trans e2.symm));(have V:b≠0:= λq=>by have:=r.1.zero;rw[q]at aZ;omega);have ob:=l.1.cell (H.2.2.1 (j+1) b L) H.2.2.2.2.2.2.1;rw[Nat.add_comm]at ob;obtain⟨Q,f1⟩:=aJ.o _ _ l.1;obtain⟨af,cf,e0,e1⟩:=H.2.1 b X;rw[m9]at e0;(have aM:Ae (Lb wr (Z af (Bo E n b).length cf) (Bo E n b)):=by refine⟨e1.1,e1.2.imp id ?_⟩;rintro⟨g',o',c',q1,q2⟩;refine⟨g',o',c',q1, λjj v hv=>l.1.cell (q2 jj v hv) ?_⟩;simp only[lU,mj]at q1;exact H.2.2.2.2.2.2.2.2 b ⟨g',o',M⟩ cf X (by rw[e0,q1.1]));have f2:=l.1.cell e0 H.2.2.2.2.2.1;have aK:=Aw Q;have HB:=Aw (lN aj aZ);clear e0 e1 Q L aj;go_wp2_with fail;refine(O4 G n C D t n (DY O) f _ (Bo E n b) wr hn l.2.1.jk.tree r.1.zero r.1.inj (λp hp=>((CS E n b p).1 hp).1) (r.2.2.2.1 b) aM aK).mono ?_;rintro e u5 ⟨z,rfl,hz,b5⟩;have ax:=Aw (l.1.av b5);obtain⟨Q,bG⟩:=aJ.o _ _ ax;have i4:=Q.i;have ib:=Q.ic b X;have iz:=ax.row.frozenAt b;(obtain⟨S,aA⟩:∃S:Nat->Int,∀y,S y=if y=b then z else f y:=⟨_, λy=>rfl⟩);have HN:Ae (DW w (Aa u5 ⟨t,b,M⟩ z) G n #[sG F n P,sG A n N,sG B n u,sG C n D] t S/\Km E n (DY O) k (j+1+1) S/\(z=f b->S=f)/\Be n f (Bo E n b) z/\(K<=k->z=f b)):=by
       refine⟨ax.set b z aA,l.2.1.step r.1 X V HB.2 hz aA, λq=> ?_,hz, λaY=> ?_⟩
       . (funext y);rw[aA y];by_cases e:y=b
         . rw[mE e,q,e]
         rw[lY e]
       have T:∀x,x<n->Kn f x:=l.2.1.all.resolve_left oM;refine YO r.1 l.2.1.jk T (λx g d hd hr=> ?_) X V (Ho E n b) hz;have bj:=(hd.j6 l.2.1.jk.tree g).2.2;exact(l.2.1.kT x g (T x g) d hd).1 ((r.2.2.2.2.1 d bj x g hr).mono aY)
      clear Q hz b5 aK aM f1 f2 ob;(go_upto_region 8 with fail);go_cut [2]from 36 to 47 (λc wx=>(∃c':Bool,c=Ao c'/\(c'=false->s=false/\z=f b)/\(s=false->z=f b->c'=false))/\wx=u5)
      case first=>
       cases s
       . by_cases aa:z=f b
         . (have bx:(z != f b)=false:=by simp[aa]);have HZ:=Aw aa;clear aa;go_wp2;go_meet;exact⟨⟨_,rfl, λ_=>⟨trivial,HZ⟩, λ_ _=>rfl⟩,rfl⟩
         (have bx:(z != f b)=true:=by simp[aa]);have HZ:=Aw aa;clear aa;go_wp2;go_meet;exact⟨⟨_,rfl,(λq=>(by cases q)),(λ_ q=>absurd q HZ.o)⟩,rfl⟩
       go_wp2;go_meet;exact⟨⟨_,rfl,(λq=>(by cases q)),(λq=>(by cases q))⟩,rfl⟩
      case rest=>
       obtain⟨⟨c',rfl,aG,aW⟩,ae⟩:=hcut;rw[ae];clear ae;go_wp2;go_roundw;case rel=>
        refine⟨c',S,j+1,rfl,by go_num,oM,HN.1,HN.2.1, λq=> ?_, λq=>aW (l.2.2.2 q) (HN.2.2.2.2 q)⟩;obtain⟨q1,q2⟩:=aG q;obtain⟨r1,r2⟩:=l.2.2.1 q1;have r3:=HN.2.2.1 q2;refine⟨r3.trans r1, λy hy bu hl=> ?_⟩;rw[r3];by_cases e:y=b
        . rw[e,<-q2];exact HN.2.2.2.1
        refine r2 y hy bu ?_;have h1:=r.1.inj y b hy X;have h2:=HB.2;omega
       case measure=>exact oI
    have aX:j+1=n:=oM;have bq:¬(j:Int)<((n-1:Nat):Int):=oM;have R:Ae (Km E n (DY O) (k+1) 1 f/\∀x,x<n->Kn f x):=by have h0:=l.2.1;rw[aX]at h0;(have T:∀x,x<n->Kn f x:= λx g=>h0.kn x g (r.2.2.2.2.2 x g));exact⟨⟨h0.jk,h0.kT.pass r.1 r.2.2.2.2.2, λx g _=>T x g,.inr T,h0.z⟩,T⟩
    cases s
    . (have au:Ae (PU E n (DY O) f):=by obtain⟨_,q2⟩:=l.2.2.1 rfl;refine⟨R.1.jk,R.2, λd x g=>YY r.1 R.1.jk R.2 (Bo E n) (λb _=>Ho E n b) (λb L V=>q2 b L V (by rw[aX];exact r.2.2.2.2.2 b L)) g,R.1.z⟩);go_wp2;go_roundg 0;(case measure=>omega);exact⟨false,f,0,rfl,l.1,.inr ⟨rfl,au⟩⟩
    . have aY:k<K:=by
       by_cases q:K<=k
       . have:=l.2.2.2 q;cases this
       omega
      go_wp2;go_roundg (gk-1);(case measure=>omega);exact⟨true,f,k+1,rfl,l.1,.inl ⟨rfl,oM,oM,R.1⟩⟩
 go_wp2;go_end0;exact⟨rfl,t,I0,HD,au⟩
def Hb(xs:List MI)(p:Int):Int:=((CY xs xs).idxOf p.toNat:Int)
def KZ(xs:List MI)(x:MB×J):MB×J:=(⟨x.1.cz,x.1.last,x.1.next.map (Hb xs)⟩,x.2)
theorem WO(xs:List MI)(c:Bd xs)(D:List (MB×J))(h:D.map Prod.fst=K4 xs):(D.map (KZ xs)).map Prod.fst=AR xs:=by
 have g:(D.map (KZ xs)).map Prod.fst=(D.map Prod.fst).map λb=>⟨b.cz,b.last,b.next.map (Hb xs)⟩:=by rw[ot,ot];rfl
 rw[g,h];unfold K4 AR;rw[ot];apply o4;intro m d;obtain⟨b,j⟩:=nB d;obtain⟨e,a,k⟩:=Ma xs xs c.1 m d;obtain⟨x,f⟩:∃x,xs[e]?=K x:=⟨_,an k⟩;have l:=Of xs b e x m c j a f;simp only[Function.comp,UY,Rw];rw[a,lV,mI,f];simp only[oz];rw[l];rfl
theorem Rf(xs:List MI)(k:Bd xs)(m:MB)(l:m∈K4 xs)(p:Int)(d:p∈m.next):0<=p/\p.toNat∈CY xs xs:=by
 unfold K4 at l;obtain⟨r,n,rfl⟩:=mV.1 l;obtain⟨b,g⟩:=nB n;obtain⟨e,h,j⟩:=Ma xs xs k.1 r n;obtain⟨x,f⟩:∃x,xs[e]?=K x:=⟨_,an j⟩;simp only[UY]at d;rw[h,lV,mI,f]at d;simp only[oz,Bc]at d;rcases mA.1 d with a|a
 . split at a
   . rename_i q;simp only[lW,lZ,mS]at a;subst a;rw[Cu]at g;refine⟨oM,?_⟩;rw[lV];exact LM _ _ _ _ _ g h q.2
   cases a
 split at a
 . rename_i q;simp only[lW,lZ,mS]at a;subst a;obtain⟨c0,c1⟩:=k.2.2 e x f q.1;have c3:(x.c.toNat:Int)=x.c:=pJ c0;exact⟨c0,(Df _ _ _).2 ⟨oM,Mc xs _ e _ x j f (by simp[Iv,q.1,c3])⟩⟩
 cases a
theorem Za(L:List Nat)(q:Nat):(L.map Int.ofNat).idxOf (q:Int)=L.idxOf q:=by
 induction L with
 |nil=>rfl
 | cons y r c=>
   rw[nh,pX,pX,c];by_cases h:y=q
   . subst h;simp
   (have a:(Int.ofNat y==(q:Int))=false:=by rw[o3];intro e;exact h (by have d:(y:Int)=(q:Int):=e;omega));(have b:(y==q)=false:=by simpa using h);rw[a,b]
structure JW(w u:Y)(xs:List MI)(gl cl bl:Nat)(F:List (MB×J)):Prop where
 row:Ab u w 97 3 (sG bl (CY xs xs).length (CY xs xs).length) (CY xs xs).length (Ad Dj F)
 fg:CO u w ((sG gl (CY xs xs).length cl,(CY xs xs).map Int.ofNat)::Dt F)
 cq:Ah w w u
theorem JW.av{w u d:Y}{c cl b:Nat}{F:List (MB×J)}(h:JW w u xs c cl b F)(a:Ah u u d):JW w d xs c cl b F:=⟨AD h.row a lR,h.fg.av a,Ar h.cq lR a⟩
theorem JW.drew{w u:Y}{b cl a:Nat}{F:List (MB×J)}(h:JW w u xs b cl a F)(k:Nat):JW w (u.drewN k) xs b cl a F:=⟨⟨h.row.1,h.row.2⟩,⟨λr c=>⟨(h.fg.own r c).1,(h.fg.own r c).2⟩,h.fg.sep⟩,⟨h.cq.os,h.cq.tape,h.cq.output,h.cq.size,h.cq.block⟩⟩
theorem JW.set{w u:Y}{e cl j b c n:Nat}{E G:List (MB×J)}{f l:Int}{a g:List Int}(h:JW w u xs e cl j (E++(⟨f,l,a⟩,sG b n c)::G))(p: ↑a=n)(r:(Ad At a).set i (iZ z)=Ad At g)(q:g.length= ↑a):JW w (Aa u ⟨b,i,M⟩ (iZ z)) xs e cl j (E++(⟨f,l,g⟩,sG b n c)::G):=by
 have d:=h.fg.own (sG b n c,a) (by simp[Dt]);simp only[]at d;rw[p]at d;have k:=(d.stored i (iZ z)).1;rw[r]at k;refine⟨?_,?_,h.cq.setCell (AZ d).1 _⟩
 . have:=Mu h.row d dC i (iZ z);simpa[Dj]using this
 have m:=h.fg;rw[show(((sG e (CY xs xs).length cl,(CY xs xs).map Int.ofNat):J×List Int)::Dt (E++((⟨f,l,a⟩:MB),(sG b n c:J))::G))=(((sG e (CY xs xs).length cl,(CY xs xs).map Int.ofNat):J×List Int)::Dt E)++((sG b n c:J),a)::Dt G from by simp[Dt]]at m;have:=CO.put (c':=g) m q (by rw[p];exact k) (SH ⟨rfl,rfl,rfl,Nat.le_refl _, λ_ _ _=>rfl⟩ i (iZ z));simpa[Dt]using this
theorem JW.search{w u:Y}{a cl f m:Nat}{F:List (MB×J)}(h:JW w u xs a cl f F)(d:(CY xs xs).length=m)(r:m<=1024)(p:Int)(n:0<=p)(g:p.toNat∈CY xs xs):
 Ai Aq 56 #[sG a m cl,iZ p] u λe j=>(∃b,e=Am (.tuple #[iZ (Hb xs p),.bool b]))/\∃q,j=u.drewN q:=by
 have c:=Rd.eP (h.fg.own _ nG);simp only[mQ]at c;have k:=Td a cl ((CY xs xs).map Int.ofNat) p u (by rw[mQ,d];omega) (oj.2 ((DC xs _).imp (λh=>by simpa using h))) (by rw[mQ];exact c) (mV.2 ⟨p.toNat,g,oT⟩);have e:((CY xs xs).map Int.ofNat).idxOf p=(CY xs xs).idxOf p.toNat:=by have l:p=(p.toNat:Int):=oM;rw[<-Za];congr 1
 rw[mQ,d,e]at k;exact k
theorem VO(xs:List MI)(a:List Int)(i:Nat)(p:Int)(h:a[i]?=K p):(Ad At ((a.map (Hb xs)).take i++a.drop i)).set i (iZ (Hb xs p))=Ad At ((a.map (Hb xs)).take (i+1)++a.drop (i+1)):=by
 obtain⟨b,c⟩:=f7.1 h;rw[oG b,c,mW,mv];have d:(Ad At (List.take i (a.map (Hb xs)))).length=i:=by rw[AX At 1 AE,nF,mQ];omega
 rw[show At p++List.flatMap At (List.drop (i+1) a)=[Value.int Af p]++List.flatMap At (List.drop (i+1) a)from rfl,uw _ _ _ _ i d,mZ (by simpa using b),mW,mW];simp[At,c]
theorem IA{α:Type}{l:List α}{h:α->α}{g:α}(c:g∈l.modify i h):∃a∈l,g=a\/g=h a:=by
 obtain⟨j,b⟩:=List.mem_iff_getElem?.1 c;rw[List.getElem?_modify]at b;cases ha:l[j]? with
 |none=>rw[ha]at b;cases b
 | some a=>
   rw[ha]at b;simp only[Option.map_eq_map,oO,lX]at b;refine⟨a,lP ha,?_⟩;split at b
   . exact .inr b.symm
   exact .inl b.symm
theorem KJ(H:∀g∈fs,g.small)(d:∀g,(h g).aB.length= ↑g.aB):∀g∈Du fs h,g.small:= λg c=>by
 obtain⟨a,b,e|e⟩:=IA c
 . rw[e];exact H a b
 unfold MG.small;rw[e,d];exact H a b
theorem Oh:(Du fs h).length=fs.length:=by unfold Du;rw[List.length_modify]
theorem Pp{a b:Nat}(H:∀r∈cs,r.length<=1048576):∀r∈Eh cs a b v,r.length<=1048576:= λr d=>by
 obtain⟨q,c,e|e⟩:=IA d
 . rw[e];exact H q c
 rw[e,mF];exact H q c
theorem SY{a b:Nat}:(Eh cs a b v).length=cs.length:=by unfold Eh;rw[List.length_modify]
theorem UB{f:MF}{g:MG}{s:MS}{x:MI}(hp:AY p 0)(e:s.small)(hK:s.stack.length<=64)(V:s.dk.length<=32):(DR p f g s x).small:=by
 have k:∀q∈Du s.dk (λh=>{h with at_:=g.at_+1}),q.small:=KJ e.frame (λ_=>rfl);have X:(Du s.dk (λh=>{h with at_:=g.at_+1})).length<=32:=by rw[Oh];exact V
 have aa:(s.stack.take (↑s.stack-(AA p f x).length)).length<=64:=by rw[nF];omega
 have W:(s.stack.drop (↑s.stack-(AA p f x).length)).length<=64:=by rw[m8];omega
 have hz:∀c:MF,p.aC[x.a.toNat]?=K c->c.aB.length<=32:= λc z=>by have Q:Cb c:=hp.parts.2.2.1.2.2.1 _ (f7.1 z).1 c z;have:=Q.loc;omega
 have l:∀(t:Int) (d:Bool) (c n:Int) (cs:List (List MC)) (D:List MC) (y:List MG),cs.length<=1048576->(∀r∈cs,r.length<=1048576)->D.length<=66->y.length<=33->(∀q∈y,q.small)->(⟨t,d,c,n,cs,D,y⟩:MS).small:= λt d c n cs D y B C h3 Q U=>⟨B,C,oS,oS,U⟩
 unfold DR;simp only[];generalize s.stack.take (s.stack.length-(AA p f x).length)=st at aa⊢;generalize s.stack.drop (s.stack.length-(AA p f x).length)=ar at W⊢;generalize Du s.dk (λh=>{h with at_:=g.at_+1})=m at k X⊢;have B:∀v:MC,(st++[v]).length<=66:= λv=>oT
 have C:∀v v':MC,(st++[v,v']).length<=66:= λv v'=>oT
 have R:∀h:MG->MG,(∀q,(h q).aB.length= ↑q.aB)->(Du m h).length<=33/\∀q∈Du m h,q.small:= λh A=>⟨by rw[Oh];omega,KJ k A⟩
 have j:∀v:MC,(⟨s.trap,s.done,s.cost,s.steps,s.cells,st++[v],m⟩:MS).small:= λv=>l _ _ _ _ _ _ _ e.cells e.cell (B v) oM k
 have S:(⟨s.trap,s.done,s.cost,s.steps,s.cells,st,m⟩:MS).small:=l _ _ _ _ _ _ _ e.cells e.cell oM oM k;have w:∀h:MG->MG,(∀q,(h q).aB.length= ↑q.aB)->(⟨s.trap,s.done,s.cost,s.steps,s.cells,st,Du m h⟩:MS).small:= λh A=>l _ _ _ _ _ _ _ e.cells e.cell oM (R h A).1 (R h A).2
 have T:∀a b v,(⟨s.trap,s.done,s.cost,s.steps,Eh s.cells a b v,st,m⟩:MS).small:= λa b v=>l _ _ _ _ _ _ _ (by rw[SY];exact e.cells) (Pp e.cell) oM oM k
 by_cases c0:x.op=0\/x.op=24
 . rw[mE c0];exact S
 rw[lY c0];by_cases c1:x.op=1
 . rw[mE c1];exact j _
 rw[lY c1];by_cases c2:x.op=2
 . rw[mE c2];exact j _
 rw[lY c2];by_cases c3:x.op=3
 . rw[mE c3];exact w _ (λq=>sP)
 rw[lY c3];by_cases c4:x.op=4
 . rw[mE c4];exact j _
 rw[lY c4];by_cases c5:x.op=5
 . rw[mE c5];exact T _ _ _
 rw[lY c5];by_cases c6:x.op=6
 . rw[mE c6];exact j _
 rw[lY c6];by_cases c7:x.op=7
 . rw[mE c7];exact T _ _ _
 rw[lY c7];by_cases E:x.op=16\/x.op=19
 . rw[mE E];exact j _
 rw[lY E];by_cases F:x.op=20\/x.op=21
 . rw[mE F];exact j _
 rw[lY F];by_cases G:8<=x.op/\x.op<=18
 . rw[mE G];exact j _
 rw[lY G];by_cases H:x.op=22
 . rw[mE H];exact j _
 rw[lY H];by_cases I:x.op=23
 . rw[mE I];exact l _ _ _ _ _ _ _ e.cells e.cell (C _ _) oM k
 rw[lY I];by_cases L:x.op=25
 . rw[mE L];exact w _ (λq=>rfl)
 rw[lY L];by_cases N:x.op=26
 . rw[mE N];split
   . exact w _ (λq=>rfl)
   exact S
 rw[lY N];by_cases O:x.op=27
 . rw[mE O];split
   . exact w _ (λq=>rfl)
   exact w _ (λq=>sP)
 rw[lY O];by_cases P:x.op=28
 . rw[mE P];refine l _ _ _ _ _ _ _ e.cells e.cell oM oT (λq u=> ?_);simp only[mA,mK]at u;rcases u with u|rfl
   . exact k q u
   unfold MG.small;simp only[mB];split
   . rename_i c z;have:=hz c z;rw[mQ];omega
   simp only[nT];omega
 rw[lY P];exact l _ _ _ _ _ _ _ e.cells e.cell oM oT (λq u=>e.frame q ((List.dropLast_sublist _).subset u))
structure Bp(R:Nat->Prop)(u u':Y):Prop where
 os:u'.os=u.os
 tape:u'.tape=u.tape
 output:u'.output=u.output
 size:(u:Nat)<= ↑u'
 block:∀k,k< ↑u->¬R k->u'.heap[k]?=u.heap[k]?
theorem Bp.of{u a:Y}(h:Ah u u a):Bp R u a:=⟨h.os,h.tape,h.output,h.size, λk b _=>h.block k b⟩
theorem Bp.refl(R:Nat->Prop)(u:Y):Bp R u u:=⟨rfl,rfl,rfl,Nat.le_refl _, λ_ _ _=>rfl⟩
theorem Bp.trans{g:Nat->Prop}{a b c:Y}(h:Bp R a b)(d:Bp g b c)(l:∀k,k< ↑a->g k->R k):Bp R a c:=⟨d.os.trans h.os,d.tape.trans h.tape,d.output.trans h.output,mC h.size d.size, λk f j=>(d.block k (nH f h.size) (λe=>j (l k f e))).trans (h.block k f j)⟩
theorem Bp.below{a b:Y}(h:Bp R a b)(e:B<= ↑a)(c:∀k,k<B->¬R k):Ah B a b:=⟨h.os,h.tape,h.output,h.size, λk d=>h.block k oM (c k d)⟩
theorem Bp.eI{a b:Y}(h:Bp R a b){g:Nat}{c:Array J}{ty:Aj}(d:Ay a g c ty)(e:¬R g):Ay b g c ty:=by unfold Ay at*;rw[h.block g (mH.1 d).1 e];exact d
theorem Bp.setCell{a b:Y}(h:Bp R a b){ad:Addr}(c:R ad.block\/ ↑a<=ad.block)(x:J):Bp R a (b.setCell ad x):=by
 refine⟨h.os,h.tape,h.output,by rw[oN];exact h.size, λk f d=> ?_⟩;have g:k≠ad.block:= λe=>by
  rcases c with c|c
  . exact d (e▸c)
  omega
 rw[Below.heap_setCell _ _ _ _ g];exact h.block k f d
theorem Bp.grown{a b c:Y}(h:Bp R a b){r:Option Nat}(d:b.grownBy c r)(j:∀k,k< ↑a->K k=r->R k):Bp R a c:=⟨d.os.trans h.os,d.tape.trans h.tape,d.output.trans h.output,mC h.size d.size, λk f g=>(d.block k (nH f h.size) (λe=>g (j k f e))).trans (h.block k f g)⟩
def Dm(X:VS)(C:List (J×List MC))(F:List (MG×J))(b:Nat):Prop:=X.c.ownBlock=K b\/X.k.ownBlock=K b\/X.f.ownBlock=K b\/(∃r∈C,r.1.ownBlock=K b)\/∃r∈Bh F,r.1.ownBlock=K b
theorem AB.ltOf{u:Y}{C:List (J×List MC)}{K:List MC}(h:AB u B X C K F){b:Nat}(a:Dm X C F b):B<=b/\b<u.heap.size:=by
 rcases a with a|a|a|⟨r,c,a⟩|⟨r,c,a⟩
 . exact h.cells.lt b a
 . exact(h.fg.own (X.k,K) sP).lt b a
 . exact h.dk.lt b a
 . exact(h.fg.own r (by simp only[mA];exact .inl (.inl c))).lt b a
 exact(h.fg.own r (by simp only[mA];exact .inr c)).lt b a
theorem Bp.own{u d:Y}(m:Bp R u d){e:Aj}{k n:Nat}{xs:List J}(h:Ab u B e k s n xs)(p:∀b,s.ownBlock=K b->¬R b):Ab d B e k s n xs:=by
 refine⟨h.1,?_⟩;rcases h.2 with j|⟨g,cap,f,a,l,c,q⟩
 . exact .inl j
 refine .inr ⟨g,cap,f,a,l,?_,q⟩;rw[m.block g (mH.1 c).1 (p g (by rw[a];rfl))];exact c
theorem AB.gv{u f:Y}{C:List (J×List MC)}{K:List MC}(h:AB u B X C K F)(d:Bp R u f)(e:∀b,Dm X C F b->¬R b):AB f B X C K F:=by
 refine⟨d.own h.cells (λb a=>e b (.inl a)),d.own h.dk (λb a=>e b (.inr (.inr (.inl a)))),⟨λr c=>d.own (h.fg.own r c) (λb a=>e b ?_),h.fg.sep⟩⟩;simp only[mA,mK]at c;rcases c with(c|rfl)|c
 . exact .inr (.inr (.inr (.inl ⟨r,c,a⟩)))
 . exact .inr (.inl a)
 exact .inr (.inr (.inr (.inr ⟨r,c,a⟩)))
theorem AB.jS{u:Y}{C:List (J×List MC)}{K:List MC}(h:AB u B X C K F){a:Addr}(d:¬Dm X C F a.block)(x:J):AB (u.setCell a x) B X C K F:=h.gv (R:= λj=>j=a.block) (Bp.setCell (R:= λj=>j=a.block) (Bp.refl _ u) (.inl rfl) x) (λb c e=>d (e▸c))
def Kr(k:Nat):Nat:=(#[95,96,97,98,99,100,101,102,103,103,103,103,103,103,103,103,104,103,103,104,105,105,106,107,108,109,110,111,112,113]:Array Nat).getD k 0
def qz(a k:Nat):J:=.func (.func (Kr k)) #[.pointer a] #[]
structure MCs(cur:Array J)(M:Nat)(t:Int)(d:Bool)(c n:Int)(X:VS)(hv:J):Prop where
 c0:cur[0]?=K (Ag Af t)
 c1:cur[1]?=K (Ao d)
 c2:cur[2]?=K (Ag Af c)
 c3:cur[3]?=K (Ag Af n)
 c4:cur[4]?=K X.c
 c5:cur[5]?=K X.k
 c6:cur[6]?=K X.f
 c7:cur[7]?=K hv
 rows:∀k v,BP[k]?=K v->cur[8+k]?=K v
 ju:∀k,k<30->cur[128+k]?=K (qz M k)
 size:cur.size=158
structure BC(u:Y)(M:Nat)(t:Int)(d:Bool)(c n:Int)(X:VS)(hv:J):Prop where
 eI:∃cur,Ay u M cur 87/\MCs cur M t d c n X hv
theorem BC.lt{u:Y}{c n:Int}(h:BC u a t d c n X e):a<u.heap.size:=by obtain⟨f,b,_⟩:=h.eI;exact b.lt
theorem BC.av{u e:Y}{c n:Int}{b:J}(h:BC u a t d c n X b)(k:Ah u.heap.size u e):BC e a t d c n X b:=by obtain⟨f,g,j⟩:=h.eI;exact⟨f,g.av k,j⟩
theorem BC.gv{u e:Y}{c n:Int}{b:J}(h:BC u a t d c n X b)(k:Bp R u e)(l:¬R a):BC e a t d c n X b:=by obtain⟨f,g,j⟩:=h.eI;exact⟨f,k.eI g l,j⟩
theorem BC.other{u:Y}{b:Nat}{c n:Int}(h:BC u b t d c n X e){a:Addr}(k:b≠a.block)(x:J):BC (u.setCell a x) b t d c n X e:=by obtain⟨f,g,j⟩:=h.eI;exact⟨f,g.other k x,j⟩
theorem BC.at{u:Y}{c n:Int}(h:BC u a t d c n X g):u.cell? ⟨a,0,M⟩=K (Ag Af t)/\u.cell? ⟨a,1,M⟩=K (Ao d)/\u.cell? ⟨a,2,M⟩=K (Ag Af c)/\u.cell? ⟨a,3,M⟩=K (Ag Af n)/\u.cell? ⟨a,4,M⟩=K X.c/\u.cell? ⟨a,5,M⟩=K X.k/\u.cell? ⟨a,6,M⟩=K X.f/\u.cell? ⟨a,7,M⟩=K g:=by obtain⟨j,b,e⟩:=h.eI;exact⟨(b.cell 0).trans e.c0,(b.cell 1).trans e.c1,(b.cell 2).trans e.c2,(b.cell 3).trans e.c3,(b.cell 4).trans e.c4,(b.cell 5).trans e.c5,(b.cell 6).trans e.c6,(b.cell 7).trans e.c7⟩
theorem BC.row{u:Y}{c n:Int}(h:BC u a t d c n X g)(k:Nat)(v:J)(f:BP[k]?=K v):u.cell? ⟨a,8+k,M⟩=K v:=by obtain⟨j,b,e⟩:=h.eI;exact(b.cell _).trans (e.rows k v f)
theorem BC.act{u:Y}{c n:Int}(h:BC u a t d c n X g)(k:Nat)(f:k<30):u.cell? ⟨a,128+k,M⟩=K (qz a k):=by obtain⟨j,b,e⟩:=h.eI;exact(b.cell _).trans (e.ju k f)
theorem BC.frozen{u:Y}{c n:Int}(h:BC u a t d c n X e)(i:Nat):u.frozen? ⟨a,i,M⟩=false:=by obtain⟨f,b,g⟩:=h.eI;exact b.frozen i
theorem AO{a:Array J}{j:Nat}{x v:J}(b:i≠j)(h:a[j]?=K v):(a.setIfInBounds i x)[j]?=K v:=by rw[Array.getElem?_setIfInBounds_ne b];exact h
theorem Gk{a:Array J}{x:J}(h:i<a.size):(a.setIfInBounds i x)[i]?=K x:=by simp[h]
theorem BC.kW{u:Y}{b:Nat}{c n:Int}{f:J}(h:BC u b t d c n X f)(z:Int):BC (Aa u ⟨b,0,M⟩ (Ag Af z)) b z d c n X f:=by obtain⟨l,g,a⟩:=h.eI;have j:=a.size;exact⟨_,g.set 0 _,Gk oM,AO oM a.c1,AO oM a.c2,AO oM a.c3,AO oM a.c4,AO oM a.c5,AO oM a.c6,AO oM a.c7, λk v e=>AO oM (a.rows k v e), λk e=>AO oM (a.ju k e),by simp[j]⟩
theorem BC.jp{u:Y}{b:Nat}{c n:Int}{f:J}(h:BC u b t d c n X f)(z:Bool):BC (Aa u ⟨b,1,M⟩ (Ao z)) b t z c n X f:=by obtain⟨l,g,a⟩:=h.eI;have j:=a.size;exact⟨_,g.set 1 _,AO oM a.c0,Gk oM,AO oM a.c2,AO oM a.c3,AO oM a.c4,AO oM a.c5,AO oM a.c6,AO oM a.c7, λk v e=>AO oM (a.rows k v e), λk e=>AO oM (a.ju k e),by simp[j]⟩
theorem BC.l9{u:Y}{b:Nat}{c n:Int}{f:J}(h:BC u b t d c n X f)(z:Int):BC (Aa u ⟨b,2,M⟩ (Ag Af z)) b t d z n X f:=by obtain⟨l,g,a⟩:=h.eI;have j:=a.size;exact⟨_,g.set 2 _,AO oM a.c0,AO oM a.c1,Gk oM,AO oM a.c3,AO oM a.c4,AO oM a.c5,AO oM a.c6,AO oM a.c7, λk v e=>AO oM (a.rows k v e), λk e=>AO oM (a.ju k e),by simp[j]⟩
theorem BC.lL{u:Y}{b:Nat}{c n:Int}{f:J}(h:BC u b t d c n X f)(z:Int):BC (Aa u ⟨b,3,M⟩ (Ag Af z)) b t d c z X f:=by obtain⟨l,g,a⟩:=h.eI;have j:=a.size;exact⟨_,g.set 3 _,AO oM a.c0,AO oM a.c1,AO oM a.c2,Gk oM,AO oM a.c4,AO oM a.c5,AO oM a.c6,AO oM a.c7, λk v e=>AO oM (a.rows k v e), λk e=>AO oM (a.ju k e),by simp[j]⟩
theorem BC.ku{u:Y}{b:Nat}{c n:Int}{f:J}(h:BC u b t d c n X f)(z:J):BC (Aa u ⟨b,5,M⟩ (z)) b t d c n {X with k:=z} f:=by obtain⟨l,g,a⟩:=h.eI;have j:=a.size;exact⟨_,g.set 5 _,AO oM a.c0,AO oM a.c1,AO oM a.c2,AO oM a.c3,AO oM a.c4,Gk oM,AO oM a.c6,AO oM a.c7, λk v e=>AO oM (a.rows k v e), λk e=>AO oM (a.ju k e),by simp[j]⟩
theorem BC.kP{u:Y}{b:Nat}{c n:Int}(h:BC u b t d c n X g)(z:J):BC (Aa u ⟨b,6,M⟩ (z)) b t d c n {X with f:=z} g:=by obtain⟨m,j,a⟩:=h.eI;have l:=a.size;exact⟨_,j.set 6 _,AO oM a.c0,AO oM a.c1,AO oM a.c2,AO oM a.c3,AO oM a.c4,AO oM a.c5,Gk oM,AO oM a.c7, λk v e=>AO oM (a.rows k v e), λk e=>AO oM (a.ju k e),by simp[l]⟩
theorem GP{u:Y}{c n:Int}{X b:VS}{C:List (J×List MC)}{K:List MC}{g x:J}(h:AB u B X C K F)(f:BC u a t d c n b g):AB (Aa u ⟨a,i,M⟩ x) B X C K F:=by obtain⟨j,e,_⟩:=f.eI;exact h.other e dC dC dC i x
theorem Dm.stack{a s' x3:J}{C:List (J×List MC)}{b:Nat}(h:Dm ⟨a,s,x3⟩ C F b)(e:s.ownBlock=s'.ownBlock):Dm ⟨a,s',x3⟩ C F b:=by
 rcases h with h|h|h|h|h
 . exact .inl h
 . exact .inr (.inl (e▸h))
 . exact .inr (.inr (.inl h))
 . exact .inr (.inr (.inr (.inl h)))
 exact .inr (.inr (.inr (.inr h)))
def Yv(p:MP)(a:List Int):Prop:=(AY p 0/\a=Dk p.aC)\/(¬AY p 0/\a=[])
theorem QI(h:AY p 0):Bu p.aC/\DU p:=by
 rcases h with h|h|h|h|h|h
 . exact absurd h.1 dC
 . exact absurd h.1 dC
 . exact absurd h.1 dC
 . exact absurd h.1 dC
 . exact absurd h.1 dC
 exact⟨h.2.2.2.1,h.2.2.2.2.1⟩
theorem FJ{w u:Y}(b:Ah w w u){a:Addr}{x:J}(h:w a=K x):u a=K x:=by rw[b.cell (lT h)];exact h
theorem Vd(U:Y)(z:Int):∀j u,[(iZ z:J)][j]?=K u->(Ac U (Ak #[z] 2)) ((⟨U,0,M⟩:Addr).add j)=K u:= λj u a=>by rw[Cq,m9,(Ay.new U #[z] 2).cell j];simpa using a
def CF(D:DataW Unit)(b:List MI)(k:Nat):Prop:=∀z:Int,Go.Maps.has D (.int Af z)=(b.take k).any λx=>decide (x.op=28)&&decide (x.a=z)
theorem L3(D:DataW Unit)(a:Go.Maps.IsMap D)(z y:Int)(u:DataW Unit):Go.Maps.has (D.put (.int Af z) u) (.int Af y)=(Go.Maps.has D (.int Af y)||decide (z=y)):=by
 by_cases h:y=z
 . subst h;rw[Go.Maps.has_put_same a (show WideAt.IsKeyLit (Lit.int Af y)from trivial)];simp
 rw[Go.Maps.has_put_other (λe=>h (by cases e;rfl))];have:¬z=y:= λe=>h e.symm
 simp[this]
theorem CF.start(a:List MI):CF (.map []) a 0:= λz=>rfl
theorem CF.iQ{D:DataW Unit}{b:List MI}{k:Nat}{x:MI}{u:DataW Unit}(h:CF D b k)(c:Go.Maps.IsMap D)(f:b[k]?=K x)(d:x.op=28):CF (D.put (.int Af x.a) u) b (k+1):= λz=>by obtain⟨e,rfl⟩:=f7.1 f;rw[L3 D c,h z,mZ e,List.any_append];simp[d]
theorem CF.no{D:DataW Unit}{a:List MI}{k:Nat}{x:MI}(h:CF D a k)(d:a[k]?=K x)(b:¬x.op=28):CF D a (k+1):= λz=>by obtain⟨c,rfl⟩:=f7.1 d;rw[h z,mZ c,List.any_append];simp[b]
theorem rY{x:MI}(h:x.wf):Fa x.a:=h.2.1
theorem pm{u:Y}{X:Nat}{a b c x3:J}{t:Aj}(h:Ay u X #[a,b,c,x3] t):u X=K a/\u ⟨X,1,M⟩=K b/\u ⟨X,2,M⟩=K c/\u ⟨X,3,M⟩=K x3:=⟨h.cell 0,h.cell 1,h.cell 2,h.cell 3⟩
theorem Na(s:J)(f:List MI)(w:Y)(hn:f.length<=1048576)(P:∀x∈f,x.wf)(h:Rd w 4 s f.length (Ad MI.cells f)):
 Ai Aq 125 #[s] w λe S=>e=Am (.map (K w))/\(∃d D,d<= ↑f/\AQ S w d D/\CF D f f)/\Ah w w S:=by
 have H:=Aw (lN h P);obtain⟨a1,c1,rfl⟩:=h.aD;clear h P;generalize L:f.length=n at hn H;have T:=Aw L;clear L;have aj:= @run_makeMap Aq;have v:Ae (∃d D,d<=0/\AQ (Ac w (.map #[] 0)) w d D/\CF D f 0/\Ah w w (Ac w (.map #[] 0))):=⟨0,.map [],Nat.le_refl _,World.ownsMap_made _ _ _ _,CF.start f,Al _ _⟩
 go_enter func125,ntmps125;go_wp2;go_loopw [9] (λi wr=>∃k:Nat,k<=n/\i=iZ k/\Ae (∃d D,d<=k/\AQ wr w d D/\CF D f k/\Ah w w wr)) (λi _=>n-(intOf i).toNat)
 case atStart=>exact⟨0,oM,rfl,v⟩
 clear v;obtain⟨k,hk,rfl,v⟩:=hrel;obtain⟨d,D,X,B,O,N⟩:=v.o;have l:=Aw (lN O (lN N (lN B (oD B))));clear B O N v;by_cases aa:k<n
 . obtain⟨x,p⟩:∃x,f[k]?=K x:=⟨_,an (by rw[T];exact aa)⟩;have A:=Aw (lN p (H.2 x (lP p)));rcases H.1.2 with⟨e0,_⟩|⟨g,o,c,G,y⟩
   . omega
   simp only[lU,mj]at G;obtain⟨rfl,rfl⟩:=G;have C:=Rd.elem MI.bW y k _ p 0 _ rfl;have E:=Rd.elem MI.bW y k _ p 1 _ rfl;have F:=Rd.elem MI.bW y k _ p 2 _ rfl;have x3:=Rd.elem MI.bW y k _ p 3 _ rfl;rw[<-l.2.1.cell (lT C),mL]at C;rw[<-l.2.1.cell (lT E)]at E;rw[<-l.2.1.cell (lT F)]at F;rw[<-l.2.1.cell (lT x3)]at x3;clear y p;have ai:(k:Int)<(n:Int):=oM;(go_upto_region 5 with fail);refine Av (λu=>Ae (AQ u w d D/\Ay u wr #[iZ x.op,iZ x.a,iZ x.b,iZ x.c] 25/\Ah w w u)) ⟨l.2.2.1.av (Al _ _),Ay.new _ _ _,Ar l.2.1 lR (Al _ _)⟩ ?_
   intro m r;clear C E F x3;obtain⟨a0,U,V,W⟩:=pm r.2.1;by_cases z:x.op=28
   . rw[z]at a0;have t:=Aw (lN ((Ay.new m #[iZ x.a] 2).cell 0) (lN ((r.1.av (Al _ _)):AQ (Ac m (Ak #[iZ x.a] 2)) w d D) (lN ((Ar r.2.2 lR (Al _ _)):Ah w w (Ac m (Ak #[iZ x.a] 2))) ((by have:=oL r.1;omega):¬(m:Nat)= ↑w))))
     go_wp2_with fail;refine(Da w d m 1 D x.a _ (rY A.2) oM t.1 t.2.2.2 t.2.1).mono ?_;rintro e R ⟨rfl,Q,I⟩;have q:Ae (∃d D,d<=k+1/\AQ R w d D/\CF D f (k+1)/\Ah w w R):=⟨_,_,oM,Q,l.1.iQ l.2.2.2 A.1 z,t.2.2.1.grown I t.2.2.1.size (λj hj=>by cases hj;exact Nat.le_refl _)⟩
     clear Q I a0 U V W;go_wp2;go_roundw;(case rel=>exact⟨k+1,oM,by go_num,q⟩);exact oI
   (have ae:(x.op==28)=false:=by simpa using z);have q:Ae (∃d D,d<=k+1/\AQ m w d D/\CF D f (k+1)/\Ah w w m):=⟨_,_,oM,r.1,l.1.no A.1 z,r.2.2⟩
   go_wp2;go_roundw;(case rel=>exact⟨k+1,oM,by go_num,q⟩);exact oI
 obtain rfl:k=n:=oM;have q:=Aw (lN ((⟨d,D,X,l.2.2.1,l.1⟩):(∃d D,d<=k/\AQ wr w d D/\CF D f k)) l.2.1)
 go_wp2;go_ret;exact⟨rfl,q.1,q.2⟩
def Top(E:Nat->List Nat)(n:Nat)(P:Nat->Bool)(I:List Nat)(f:Nat)(pl:Nat->Nat):Prop:=∀a b x,Jr P n a->Jr P n b->x∈E b->Jr P n x->jf I x≠jf I b->jf I x≠f->jf I x=jf I a->pl b<pl a
structure WQ(E:Nat->List Nat)(n:Nat)(P:Nat->Bool)(I:List Nat)(C:List Int)(f:Nat)(pl:Nat->Nat)(L:List Int)(k q:Nat):Prop where
 len: ↑L=n
 jG:∀y∈L,Kh y
 hd:cf L f=cf C f
 le:∀t,Yp E (Jr P n) (jf I) f (cf C) t->(∀b,Jr P n b->0<=t (jf I b))->∀b,Jr P n b->cf L (jf I b)<=t (jf I b)
 cl:Top E n P I f pl->∀b x,(pl b<k\/pl b=k/\x∈(E b).take q)->Jr P n b->x∈E b->Jr P n x->jf I x≠jf I b->jf I x≠f->cf L (jf I b)+cf C (jf I x)<=cf L (jf I x)
section
variable {E:Nat->List Nat} {n:Nat} {P:Nat->Bool} {I:List Nat} {C:List Int} {f:Nat} {pl:Nat->Nat} {L:List Int} {k q b x:Nat}
theorem GG(h:∀y∈L,Kh y)(c:Nat):Kh (cf L c):=by
 unfold cf;rw[mI];cases e:L[c]? with
 |none=>exact⟨sP,sP⟩
 |some y=>exact h y (lP e)
theorem Wt(h:x< ↑L):L[x]?=K (cf L x):=by rw[an h];exact congrArg K (Kt (an h)).symm
theorem Mi(h:y∈L.set x z):y∈L\/y=z:=nw h
theorem WQ.start(j:f<n)(g:Kh (cf C f)):WQ E n P I C f pl ((List.replicate n (0:Int)).set f (cf C f)) 0 0:=by
 have a:(List.replicate n (0:Int))[f]?=K 0:=by rw[List.getElem?_replicate,mE j]
 have q:∀c,cf (List.replicate n (0:Int)) c=0:= λc=>by
  unfold cf;rw[mI,List.getElem?_replicate];by_cases e:c<n
  . rw[mE e];rfl
  rw[lY e];rfl
 refine⟨sP, λy p=> ?_,by rw[Hg a,mE rfl], λt m k b d=> ?_, λ_ b x l=> ?_⟩
 . rcases Mi p with h|rfl
   . obtain rfl:=(List.mem_replicate.1 h).2;exact⟨sP,sP⟩
   exact g
 . rw[Hg a];by_cases e:jf I b=f
   . rw[mE e,e,m.hd];exact Int.le_refl _
   rw[lY e,q];exact k b d
 rcases l with h|⟨_,h⟩
 . omega
 simp at h
theorem WQ.lg(h:WQ E n P I C f pl L k 0)(d:∀b,b<n->pl b=k->P b=false):WQ E n P I C f pl L (k+1) 0:=
 ⟨h.len,h.jG,h.hd,h.le, λT b x a c=>by
  rcases a with a|⟨_,a⟩
  . by_cases e:pl b=k
    . have:=d b c.1 e;rw[c.2]at this;cases this
    exact h.cl T b x (.inl oM) c
  simp at a⟩
theorem WQ.lA(h:WQ E n P I C f pl L k q)(g:∀b,b<n->pl b=k->(E b).length<=q):WQ E n P I C f pl L (k+1) 0:=
 ⟨h.len,h.jG,h.hd,h.le, λT b x a c d=>by
  rcases a with a|⟨_,a⟩
  . by_cases e:pl b=k
    . exact h.cl T b x (.inr ⟨e,by rw[mm (g b c.1 e)];exact d⟩) c d
    exact h.cl T b x (.inl oM) c d
  simp at a⟩
theorem WQ.jQ(h:WQ E n P I C f pl L k q)(p:∀c,c<n->pl c=k->c=b)(s:(E b)[q]?=K x)(r:¬(Jr P n x/\jf I x≠jf I b/\jf I x≠f)):WQ E n P I C f pl L k (q+1):=
 ⟨h.len,h.jG,h.hd,h.le, λT c y a j m l d g=>by
  rcases a with a|⟨e,a⟩
  . exact h.cl T c y (.inl a) j m l d g
  have:=p c j.1 e;subst this;rw[List.take_add_one,s,mA]at a;rcases a with a|a
  . exact h.cl T c y (.inr ⟨e,a⟩) j m l d g
  simp at a;subst a;exact absurd ⟨l,d,g⟩ r⟩
theorem WQ.over(h:WQ E n P I C f pl L k q)(F:∀a,a<n->pl a=k->a=b)(l:Jr P n b)(U:pl b=k)(w:(E b)[q]?=K x)(p:Jr P n x)(v:jf I x≠jf I b)(j:jf I x≠f)(O:jf I x<n)(S:0<=cf C (jf I x))(R:max (cf L (jf I x)) (cf L (jf I b)+cf C (jf I x))<=4294967295):WQ E n P I C f pl (L.set (jf I x) (max (cf L (jf I x)) (cf L (jf I b)+cf C (jf I x)))) k (q+1):=by
 have d:=Wt (L:=L) (x:=jf I x) (by rw[h.len];exact O);have z:x∈E b:=lP w;have H:=GG h.jG (jf I x);refine⟨by simp[h.len], λy u=> ?_,by rw[Hg d,lY (Ne.symm j)];exact h.hd, λt g r a G=> ?_, λT a y c m u N B D=> ?_⟩
 . rcases Mi u with e|rfl
   . exact h.jG y e
   exact⟨by have:=H.1;omega,R⟩
 . rw[Hg d];by_cases e:jf I a=jf I x
   . rw[mE e,e];have V:=h.le t g r b l;have W:=g.ed b x l z p v j;have X:=h.le t g r x p;omega
   rw[lY e];exact h.le t g r a G
 have s:(pl a<k\/pl a=k/\y∈(E a).take q)\/(a=b/\y=x):=by
  rcases c with c|⟨e,c⟩
  . exact .inl (.inl c)
  have A:=F a m.1 e;subst A;rw[List.take_add_one,w,mA]at c;rcases c with c|c
  . exact .inl (.inr ⟨e,c⟩)
  simp at c;exact .inr ⟨rfl,c⟩
 rw[Hg d,Hg d];have Q:jf I a≠jf I x:= λe=>by have:=T a b x m l z p v j e.symm;rcases c with c|⟨e,_⟩<;>omega
 rw[lY Q];rcases s with s|⟨rfl,rfl⟩
 . have:=h.cl T a y s m u N B D;by_cases e:jf I y=jf I x
   . rw[mE e];rw[e]at this⊢;omega
   rw[lY e];exact this
 rw[mE rfl];omega
theorem WQ.bad(h:WQ E n P I C f pl L k q)(a:Jr P n b)(l:(E b)[q]?=K x)(c:Jr P n x)(e:jf I x≠jf I b)(g:jf I x≠f)(p:¬max (cf L (jf I x)) (cf L (jf I b)+cf C (jf I x))<=4294967295):∀t,Yp E (Jr P n) (jf I) f (cf C) t->(∀b,Jr P n b->0<=t (jf I b))->∃b,Jr P n b/\4294967295<t (jf I b):= λt d j=>by have r:=h.le t d j b a;have s:=d.ed b x a (lP l) c e g;have m:=GG h.jG (jf I x);have u:=m.2;exact⟨x,c,oM⟩
def qy(E:Nat->List Nat)(n:Nat)(P:Nat->Bool)(I:List Nat)(C:List Int)(f:Nat)(pl:Nat->Nat)(L:List Int)(small:Bool):Prop:=(small=true/\∃k,WQ E n P I C f pl L k 0/\∀b,b<n->pl b<k)\/(small=false/\∀t,Yp E (Jr P n) (jf I) f (cf C) t->(∀b,Jr P n b->0<=t (jf I b))->∃b,Jr P n b/\4294967295<t (jf I b))
theorem qy.pass{D:Nat->Nat->Bool}{q:Nat->Prop}(g:Ih E n pl D)(s:M6 E n D q (jf I))(r:Ys E n D q (jf I) (Jr P n) f)(w:∀c,0<=cf C c)(h:qy E n P I C f pl L true):Wh E (Jr P n) (jf I) f (cf C) (cf L):=by
 rcases h with⟨_,k,h,z⟩|⟨e,_⟩
 . (have T:Top E n P I f pl:= λa b x y d m p j l v=>r.lK g s y d m p j l v);exact⟨⟨⟨h.hd, λb x d m p j l=>h.cl T b x (.inl (z b d.1)) d m p j l⟩, λt u b d=>h.le t u (λb d=>u.jZ g r w d) b d⟩, λb d=>(GG h.jG _).2⟩
 cases e
theorem qy.jU{D:Nat->Nat->Bool}{d:Nat->Prop}(g:Ih E n pl D)(r:Ys E n D d (jf I) (Jr P n) f)(j:∀c,0<=cf C c)(h:qy E n P I C f pl L false):ON E (Jr P n) (jf I) f (cf C):= λt a=>by
 rcases h with⟨e,_⟩|⟨_,h⟩
 . cases e
 exact h t a λb k=>a.jZ g r j k
end
theorem Pd{C:List Int}{k:Nat}:(Ad At C).set k c=Ad At (C.set k c):=by
 induction C generalizing k with
 |nil=>rfl
 | cons y r a=>
   cases k with
   |zero=>rfl
   | succ k=>rw[mh,mv,mv];show At y++_=_;rw[<-a];rfl
theorem Q4{P:Int->Prop}{L:List Int}{k:Nat}(h:∀x∈L,P x)(a:P c):∀x∈L.set k c,P x:= λx b=>by
 rcases nw b with e|e
 . exact h x e
 subst e;exact a
section
variable {w u0 u:Y} {G n:Nat} {x:GV} {bad:Bool} {I:List Nat} {C:List Int} {gn cn:Nat} {P:Nat->Bool} {gB:Nat} {L:List Int}
end
theorem XV(n:Nat):(madeCells (Ag Af 0).cells (n*1)).toList=Ad At (List.replicate n (0:Int)):=by
 rw[Mf n (λ_=>[]) []];simp[CK,List.flatten_replicate_singleton];induction n with
 |zero=>rfl
 |succ n a=>rw[pV,pV,mv,<-a];rfl
end Go.Proofs.YtkgohaigebcgoaaGreatDoor
