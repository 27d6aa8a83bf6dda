import Derived.Test.YtmalfecapdmdbaaGreatHo26
namespace Go.Proofs.YtmalfecapdmdbaaGreat
open Go.ChangeShapes Go.WideShapes Go.ChangeAt Go.RowKit Go.Proofs.Tryz
set_option linter.unusedVariables false
open Go.Value renaming slice → Z,tuple → Ao
open Option renaming some → K,none → M
open Go renaming Value → J,World → Y,Calls → Ai
open Go.RowKit renaming Hid → Ae,Below → Ah
open Go.IntKind renaming i64 → Af
open Go.Obj renaming cells → Ak
open Go.Ending renaming returned → Al
open Go.Proofs.Tryz renaming prog → Ap
open Go.World renaming setCell → Aa,ownsRow → Ab,alloc → Ac
set_option maxHeartbeats 8000000
set_option maxRecDepth 100000
structure BK(w u:Y)(n gB:Nat)(FS:List (J×List Nat)):Prop where
 io:Ab u w 46 1 (sG gB n n) n (FS.map Prod.fst)
 gV:CI u w (FS.map λx=>(x.1,ints x.2))
 e8:Ah w w u
theorem BK.a7{w u d:Y}{n c:Nat}{b:List (J×List Nat)}(h:BK w u n c b)(a:Ah u u d):BK w d n c b:=⟨Aw h.io a lR,h.gV.iF a,Ar h.e8 lR a⟩
theorem BK.gX{w u f:Y}{n d g cap y b:Nat}{V:J}{c:List (J×List Nat)}{l:List Nat}(h:BK w u n d c)(s:c[y]?=K (V,l))(D:Ab f w 2 1 (sG g (l.length+1) cap) (l.length+1) (nv l++[iZ (b:Int)]))(j:u.grownBy f V.ownBlock)(v:V.ownBlock=K g\/g= ↑u):Ab f w 46 1 (sG d n n) n (c.map Prod.fst)/\BK w (Aa f ⟨d,y,M⟩ (sG g (l.length+1) cap)) n d (c.set y (sG g (l.length+1) cap,l++[b])):=by
 obtain⟨G,F⟩:=i6.1 s;have q:c=c.take y++(V,l)::c.drop (y+1):=by rw[<-F,<-mD G,m9]
 have C:(c.take y).length=y:=by rw[lh];omega
 have t:=h.gV.own (V,ints l) (lA.2 ⟨(V,l),i7 s,rfl⟩);have k:Ab f w 46 1 (sG d n n) n (c.map Prod.fst):=BJ h.io j t dC;have E:c.set y (sG g (l.length+1) cap,l++[b])=c.take y++(sG g (l.length+1) cap,l++[b])::c.drop (y+1):=by have:=Sw (c.take y) (c.drop (y+1)) (V,l) (sG g (l.length+1) cap,l++[b]);rw[C,<-q]at this;exact this
 have m:CI f w ((c.set y (sG g (l.length+1) cap,l++[b])).map λx=>(x.1,ints x.2)):=by have p:=h.gV;rw[q,mF,mX]at p;rw[E,mF,mX];refine CI.grow (g:=g) p ?_ rfl j (v.imp id λe=>oM);simp only[];rw[AZ,kE,kK,<-C7,Fx];exact D
 obtain⟨A,H,z⟩:=AD k;refine⟨k,?_,⟨λx r=>kN (m.own x r) (a:=⟨d,y,M⟩) (λe=>BF (m.own x r) z dC d e rfl) _,m.sep⟩,(h.e8.grown j h.e8.size (λi B=>(t.lt i B).1)).setCell A _⟩;have:=(k.stored y (sG g (l.length+1) cap)).1;rw[List.map_set];exact this
theorem OY{E:Nat->List Nat}{D:Nat->Nat->Bool}{b k y:Nat}(a:(E b)[k]?=K y)(x:Nat):Ct E D x b (k+1)=if x=y/\D y b=true then Ct E D x b k++[b]else Ct E D x b k:=by
 by_cases e:x=y
 . subst e;by_cases q:D x b=true
   . rw[kZ ⟨rfl,q⟩,MU a q]
   rw[kP (λr=>q r.2),I6 a (λr=>q r.2)]
 rw[kP (λr=>e r.1),I6 a (λr=>e r.1.symm)]
def WD(w d:Y)(n:Nat)(E:Nat->List Nat)(O:List Nat)(D:Nat->Nat->Bool)(e:Ending):Prop:=(∃b k y:Nat,e=Al (Ao #[sN,y])/\FX E n (Mb O D) b k y)\/∃c a,e=Al (Ao #[sG c n n,iZ (-1)])/\(∀b,b<n->∀t∈E b,¬Mb O D b t)/\BK w d n c a/\a.length=n/\∀x,x<n->∃V,a[x]?=K (V,AH E D n x)
theorem Mm(G n gN cN gP cP gi ci:Nat)(E:Nat->List Nat)(O:List Nat)(I:Nat->Int)(D:Nat->Nat->Bool)(w:Y)(hn:n<=1024)(hP:DJ E n (Dp O))(hI:OO E n (Dp O) I)(hD:∀d b,D d b=true↔CZ E d b)(aQ:∀b,(E b).length<=2)
 (h0:w G=K (sG gN n cN)) (hN:FW w gN 0 n E) (hG:GI w G n gP cP gi ci (Dp O) I):
 Ai Ap 108 #[.pointer G] w λe w'=>WD w w' n E O D e/\Ah w w w':=by
 obtain⟨k0,hk,bq,br,bt⟩:=lS Bp;obtain⟨j0,hj,bu,bx,bB⟩:=lS Uf;have H:=Av (d5 hN (d5 hG (d5 hP (d5 hI (d5 hD (d5 aQ h0))))));clear hN hG hP hI hD aQ;go_enter func108,ntmps108;go_upto_region 2 with(at_make;refine l8 _ rfl _ _ 22 rfl w 46 j0 sN 1 underlying22 hj bu bx Af Af _ _ n rfl rfl rfl rfl (by rw[bB];omega) oX lR ?_;intro w3 Q R)
 rw[Nc]at Q;have aq:Ae (BK w w3 n w ((List.range n).map λx=>((sN:J),AH E D 0 x))):=by
  refine⟨?_,⟨λx B=> ?_,?_⟩,Cn R⟩
  . rw[nE];have e:(List.range n).map (Prod.fst ∘ λx=>((sN:J),AH E D 0 x))=List.replicate n sN:=by
     apply mP;intro j;by_cases hj:j<n
     . simp[hj]
     rw[kW oT,kW oT]
    rw[e];exact Q
  . simp only[lA]at B;obtain⟨y,⟨z,_,rfl⟩,rfl⟩:=B;(have:ints (AH E D 0 z)=[]:=by simp[AH,ints]);simp only[this];exact lQ _ _ _ _
  rw[nE];refine mu.2 (nT.imp λ_=> ?_);intro g hg;cases hg
 have x0:=Au aq.e8 h0;clear Q R h0;obtain⟨v,aA⟩:∃v,v=w.heap.size:=⟨_,rfl⟩;have aT:=Av aA;rw[<-aA]at⊢;have aF:Ae (BK w w3 n v ((List.range n).map λx=>((sN:J),AH E D 0 x))):=by rw[aT];exact aq
 clear aA aq;go_wp2;go_loopw [20] (λi wr=>∃(b:Nat) (h:List (J×List Nat)),b<=n/\i=iZ b/\ ↑h=n/\Ae (BK w wr n v h/\(∀x,x<n->∃V,h[x]?=K (V,AH E D b x))/\(∀l,l<b->∀t∈E l,¬Mb O D l t))) (λi _=>n-(intOf i).toNat)
 case atStart=>exact⟨0,_,oM,rfl,sP,aF, λx B=>⟨sN,by simp[B]⟩, λl aM=>oM⟩
 clear aF x0;obtain⟨b,h,hb,rfl,W,c⟩:=hrel;by_cases P:b<n
 . have bi:(b:Int)<(n:Int):=oM;obtain⟨a,ca,g0,g1⟩:=H.1 b P;rw[lM]at g0;have aU:=Av g1;(replace g0:=Au c.1.e8 g0);have bC:=H.2.2.2.2.2.1 b;clear g1;go_wp2;go_loopw [27] (λi wr=>∃(k:Nat) (h:List (J×List Nat)),k<=(E b).length/\i=iZ k/\ ↑h=n/\Ae (BK w wr n v h/\(∀x,x<n->∃V,h[x]?=K (V,AH E D b x++Ct E D x b k))/\(∀l,l<b->∀t∈E l,¬Mb O D l t)/\(∀s t,s<k->(E b)[s]?=K t->¬Mb O D b t))) (λi _=>2-(intOf i).toNat)
   (case atStart=>exact⟨0,h,oM,rfl,W,c.1, λx B=>by obtain⟨V,X⟩:=c.2.1 x B;exact⟨V,by rw[KU,m6];exact X⟩,c.2.2, λs t aZ=>oM⟩);clear c g0;obtain⟨k,h,aZ,rfl,W,c⟩:=hrel;by_cases bf:k<(E b).length
   . have bG:(k:Int)<((E b).length:Int):=oM;obtain⟨y,hy⟩:∃y,(E b)[k]?=K y:=⟨_,an bf⟩;have ae:y<n:=H.2.2.1.iN b P y (i7 hy);have bI:(y:Int)<(n:Int):=oM;have HY:=Av hy;obtain⟨ga,oa,rfl,_,y0⟩:=aU.at_ hy;(replace y0:=Au c.1.e8 y0);have hg:=H.2.1.a7 c.1.e8;have p0:=hg.p;have py:=hg.pc y ae;have pb:=hg.pc b P;clear hy hg;have aH:Ae (¬Mb O D b y->∀s F,s<k+1->(E b)[s]?=K F->¬Mb O D b F):= λbj s F h1 h2=>by
      by_cases e:s=k
      . subst e;rw[HY]at h2;(cases h2);exact bj
      exact c.2.2.2 s F oM h2
     by_cases hp:Dp O b<Dp O y
     . have bo:(Dp O b:Int)<(Dp O y:Int):=oM;have N:Ae ((∀x,x<n->∃V,h[x]?=K (V,AH E D b x++Ct E D x b (k+1)))/\∀s F,s<k+1->(E b)[s]?=K F->¬Mb O D b F):=by
        refine⟨λx B=> ?_,aH.o (λq=>by have:=q.1;omega)⟩;rw[OY HY x,kP]
        . exact c.2.1 x B
        rintro⟨_,q⟩;have:=(((H.2.2.2.2.1 y b).1 q).iR H.2.2.1 P).2.1;omega
       go_wp2;go_quiet (fail);refine AX (λu=>Ae (BK w u n v h)) (c.1.a7 (Az _ _ _)) ?_;intro U HU;clear y0 p0 py pb;go_wp2;go_roundw;(case rel=>exact⟨k+1,h,oM,by go_num,W,HU,N.1,c.2.2.1,N.2⟩);exact oI
     have bo:¬(Dp O b:Int)<(Dp O y:Int):=oM;go_wp2;go_quiet (fail);refine AX (λu=>Ae (BK w u n v h)) (c.1.a7 (Az _ _ _)) ?_;intro U HU;clear y0 p0 py pb;go_wp2_with fail;refine(PE G n gP cP gi ci y b (Dp O) I U hn H.2.2.2.1.iy.tree H.2.2.1.zero H.2.2.1.inj ae P (H.2.2.2.1.all y ae) (H.2.2.2.1.all b P) (H.2.1.a7 HU.e8)).mono ?_;rintro e u5 ⟨m,rfl,hm,bF,hM,b5⟩;have aw:Ae (m=y↔D y b=true):=by
      rw[H.2.2.2.2.1,<-H.2.2.2.1.iV y b P];constructor
      . intro e;subst e;exact((hM m).1 .here).2
      intro q;exact Ef.iS H.2.2.2.1.iy.tree ae ((hM m).1 .here).1 ((hM y).2 ⟨.here,q⟩)
     have aj:=Av (HU.a7 b5);clear hM b5 HU;by_cases aP:m=y
     . subst aP;have aG:=Av (aw.1 rfl);obtain⟨V,X⟩:=c.2.1 m ae;obtain⟨S,T,eV⟩:=AO (c.1.gV.own (V,ints (AH E D b m++Ct E D m b k)) (lA.2 ⟨(V,_),i7 X,rfl⟩));simp only[AZ]at eV;subst eV;(have b7:(AH E D b m++Ct E D m b k).length<=4096:=by have h1:=FY H.2.2.2.2.2.1 D m b;have h2:=JB E D m b k;rw[kE];omega);generalize aJ:AH E D b m++Ct E D m b k=f at X b7;have ah:=Av (d5 aJ X);clear X aJ aw;(have au:Ae (∀(u':Y),Ab u' w 46 1 (sG v n n) n (h.map Prod.fst)->u' ⟨v,m,M⟩=K (Z S f T)):= λu' bp=>by have:=bp.cellAt m oM;rw[lE,ah.2]at this;exact this);have bE:=Aq u5 (Ak #[(b:Int)] 2);have x2:=au.o _ aj.io;have am:=Av (d5 (aj.a7 bE) (kV aj.e8.size bE.size));(have aI:Ae (Ab (Ac u5 (Ak #[(b:Int)] 2)) w 2 1 (Z S f T) f (nv f)):=by have:=am.1.gV.own (Z S f T,ints f) (lA.2 ⟨(_,f),i7 ah.2,rfl⟩);rw[AZ,<-C7]at this;exact this);have aE:Ae (∀A C L,L.ownsRow w 2 1 (sG A (f.length+1) C) (f.length+1) (nv f++[iZ (b:Int)])->(Ac u5 (Ak #[iZ (b:Int)] 2)).grownBy L (Z S f T).ownBlock->((Z S f T).ownBlock=K A\/A=(Ac u5 (Ak #[iZ (b:Int)] 2)).heap.size)->L.cell? ⟨v,m,M⟩=K (Z S f T)/\L.frozen? ⟨v,m,M⟩=false/\BK w (L.setCell ⟨v,m,M⟩ (sG A (f.length+1) C)) n v (h.set m (sG A (f.length+1) C,f++[b]))):= λA C L Q R ao=>by obtain⟨q1,q2⟩:=am.1.gX ah.2 Q R ao;exact⟨au.o _ q1,q1.frozenAt m,q2⟩
       clear bE;go_wp2_with (at_builtin;refine wpList_append_lies _ rfl _ _ 46 rfl w 2 k0 (iZ 0) 1 8 underlying46 hk bq br bt rfl dC _ f (nv f) rfl aI u5 1 1 [(b:Int)] rfl rfl (Bw u5 (b:Int)) (λu hu=>by simp at hu;subst hu;rfl) oM (by simp[maxLen];omega) oM am.2 _ rfl ?_;intro A C L Q R ao bg;obtain⟨t6,z6,l6⟩:=aE.o A C L Q R ao;have aW:Ae (BK w (L.setCell ⟨v,m,M⟩ (sG A (f.length+1) C)) n v (h.set m (sG A (f.length+1) C,f++[b]))):=l6;clear Q R ao bg l6);have N:Ae ((∀x,x<n->∃V,(h.set m (sG A (f.length+1) C,f++[b]))[x]?=K (V,AH E D b x++Ct E D x b (k+1)))/\∀s F,s<k+1->(E b)[s]?=K F->¬Mb O D b F):=by
        refine⟨λx B=> ?_,aH.o (λq=>q.2 aG)⟩;rw[OY HY x];by_cases e:x=m
        . subst e;refine⟨sG A (f.length+1) C,?_⟩;rw[kZ ⟨rfl,aG⟩,<-mm,ah.1,mZ oM]
        rw[kP (λr=>e r.1),mr (Ne.symm e)];exact c.2.1 x B
       clear x2 am aI aE au;go_roundw;(case rel=>exact⟨k+1,h.set m (sG A (f.length+1) C,f++[b]),oM,by go_num,by rw[mG];exact W,aW,N.1,c.2.2.1,N.2⟩);exact oI
     have bH:((m:Int)==(y:Int))=false:=oT;(have aY:¬D y b=true:= λq=>aP (aw.2 q));have aS:Ae (FX E n (Mb O D) b k y):=⟨P,HY,⟨oM,aY⟩, λl s x' aM aR hl=>by
      rcases hl with q|⟨rfl,q⟩
      . exact c.2.2.1 l q x' (i7 aR)
      exact c.2.2.2 s x' q aR⟩
     go_wp2;go_ret2;exact⟨Or.inl ⟨b,k,y,rfl,aS⟩,aj.e8⟩
   obtain rfl:k=(E b).length:=oM;have N:Ae ((∀x,x<n->∃V,h[x]?=K (V,AH E D (b+1) x))/\∀l,l<b+1->∀t∈E l,¬Mb O D l t):=by
    refine⟨λx B=>by rw[IB];exact c.2.1 x B, λl aM t ht=> ?_⟩;by_cases e:l=b
    . subst e;obtain⟨q,hq⟩:=lH ht;exact c.2.2.2 q t (i6.1 hq).1 hq
    exact c.2.2.1 l oM t ht
   go_wp2;go_roundw;(case rel=>exact⟨b+1,h,oM,by go_num,W,c.1,N.1,N.2⟩);exact oI
 have aX:b=n:=oM;have bi:¬(b:Int)<(n:Int):=oM;rw[aX]at c;go_wp2;go_ret2;exact⟨Or.inr ⟨v,h,rfl,c.2.2,c.1,W,c.2.1⟩,c.1.e8⟩
end Go.Proofs.YtmalfecapdmdbaaGreat
