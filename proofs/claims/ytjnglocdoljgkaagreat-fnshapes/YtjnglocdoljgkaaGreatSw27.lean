import Derived.Test.YtjnglocdoljgkaaGreatSw25
namespace Go.Proofs.YtjnglocdoljgkaaGreat
open Go.ChangeShapes Go.WideShapes Go.ChangeAt Go.RowKit
set_option linter.unusedVariables false
open Go.Value renaming slice → Z,int → Ac
open Option renaming some → K,none → M
open Go renaming Value → J,World → Y,Calls → Ae
open Go.RowKit renaming Hid → Aa,Below → Ad
open Go.IntKind renaming i64 → Ab
set_option maxHeartbeats 8000000
set_option maxRecDepth 100000
variable {p:MP}{f:MF}{y n k b:Nat}{u w:Y}{s:J}
theorem Rx:∀{c a:Nat} {sh:List Int} {T:Nat->List Int} {D:Nat} {e:Int×Nat},Cv p f c a sh T D=.inl e->e.1≠0
 |0,_,_,_,_,_,h=>by cases h
 | c+1,a,sh,T,D,e,h=>by
   unfold Cv at h;split at h
   . cases h
   split at h
   . exact Rx h
   rename_i b;(cases h);exact b
theorem Rz{g:List MB}:∀{l:List Nat} {s:WS} {e:Int×Nat},Ds p f g l s=.inl e->e.1≠0
 |[],_,_,h=>by cases h
 | b ::r,s,e,h=>by
   unfold Ds at h;split at h
   . cases h
   split at h
   . rename_i m _ j a;(cases h);unfold Lg at a;split at a
     . rename_i i;(cases a);exact Rx i
     split at a
     . (cases a);simp
     cases a
   exact Rz h
theorem IU.len{q:Nat}{y:RQ}(h:IU p (q:Int) y)(a:y.ch=0)(b:p.cC[q]?=K f):y.gU.length=f.ch.length:=by
 rcases h with⟨_,e⟩|⟨_,_,f',r,h1,_,_,e⟩
 . subst e;cases a
 rw[kM,b]at h1;obtain rfl:=kN h1;subst e;revert a;cases hr:Ds p f r.ej (r.gJ.map Int.toNat) Jo with
 |inl e=>intro a;exact absurd a (Rz hr)
 |inr s=>intro _;simp[Lv]
def PW(u:Y)(s:J)(n:Nat):Prop:=∃xs:List J,Rd u 1 s n xs/\∀x∈xs,∃(a:Option Addr) (m c:Nat),x=Z a m c
theorem PW.of{rs:List (List Int)}(h:NM u s rs):PW u s rs:=by obtain⟨xs,h1,h2,f⟩:=h;refine⟨_,h2, λx g=> ?_⟩;obtain⟨y,i,b⟩:=mN.1 g;obtain⟨a,c,e⟩:=(f y i).fu;simp only[AZ,lT]at b;exact⟨a,_,c,by rw[b,e]⟩
theorem PW.bM{a:Y}(h:PW u s n)(b:Ad u u a):PW a s n:=by obtain⟨xs,h1,h2⟩:=h;exact⟨xs,h1.bM b lR,h2⟩
theorem PW.set(h:PW u s n){a:Addr}{k:IntKind}{z:Int}(q:u.cell? a=K (Ac k z))(V:J):PW (u.setCell a V) s n:=by obtain⟨xs,⟨h1,h2⟩,i⟩:=h;refine⟨xs,⟨h1,h2.imp_right λ⟨g,o,c,e,r⟩=>⟨g,o,c,e, λj v l=> ?_⟩⟩,i⟩;have f:=r j v l;obtain⟨b,m,d,e⟩:=i v (i8 l);rw[oV _ _ _ _ (λp=>by rw[<-p,q]at f;rw[e]at f;cases f)];exact f
theorem PW.fu(h:PW u s n):∃a c,s=Z a n c:=by obtain⟨xs,h1,_⟩:=h;exact h1.fu
theorem Xa{a:Option Addr}{c:Nat}(h:PW u (Z a n c) n)(s:k<n):∃(g o:Nat) (b:Option Addr) (f c1:Nat),a=K ⟨g,o,M⟩/\u.cell? ⟨g,o+k,M⟩=K (Z b f c1):=by
 obtain⟨xs,h2,l⟩:=h;have t:=h2.1;obtain⟨x,i⟩:∃x,xs[k]?=K x:=⟨_,an oM⟩;obtain⟨b,f,c1,j⟩:=l x (i8 i);rcases h2.2 with⟨e0,_⟩|⟨g,o,c',e,p⟩
 . omega
 simp only[jc]at e;exact⟨g,o,b,f,c1,e.1,by rw[p k x i,j]⟩
theorem OO(v:VP)(p:MP)(q:Nat)(f:MF)(y:RQ)(s dv:J)(D:List Int)(w:Y)(hs:p.small)(aq:A8 p 0)(h:Cz w v p)(I:p.cC[q]?=K f)(hy:PW w s y.gU)(aw:y.gU.length= ↑f.ch)(hd:Rd w 1 dv D (D.flatMap Ah))(ao:D.length= ↑p.cC):
 Ae Tryz.prog 123 #[.agg #[v.r,v.k,v.f,v.t],iZ (q:Int),.agg #[iZ y.ch,iZ y.at_,iZ y.depth,s],dv] w λe w'=>(∃n,e=.returned (iZ n))/\Ad w w w':=by
 obtain⟨r1,r3,T,W,t1,t3,f1,f3,rfl⟩:=h.sl;obtain⟨sa,C,es⟩:∃a c,s=Z a y.gU c:=hy.fu;subst es;obtain⟨da,dc,rfl⟩:=hd.fu;have bi:=(iV.1 I).1;have O:=Ap (ji aw ao);clear aw ao;obtain⟨A,ok,ck,aj,g,ae,m0,m1,m2,m3⟩:=GO h.cC I;simp only[jc,lO]at aj;obtain⟨rfl,rfl⟩:=aj;obtain⟨g1,g3,g4,g6,g7,g9,rfl⟩:=C5 ae;have aU:=(hs.func f (i8 I)).2.2;have bg:(q:Int)<(p.cC:Int):=oM;have H:=Ap (ji aq (ji h (ji I (ji hy (ji hd ae.2.2)))));have E0:=Ef w #[Z r1 p.a7 r3,Z T p.aC W,sO A ok p.cC f3,Z t1 p.dr t3] #[iZ y.ch,iZ y.at_,iZ y.depth,Z sa y.gU C] 28 32;simp only[]at m3;have M3:Aa (w.cell? ⟨A,ok+q*4+3,M⟩=K (Z g7 f.ch g9)):=m3;clear aq h I hy hd ae m0 m1 m2 m3;go_enter Tryz.func123,Tryz.ntmps123;go_upto_region 1 with fail
 refine An (λu=>Aa (Ar u w #[Z r1 p.a7 r3,Z T p.aC W,sO A ok p.cC f3,Z t1 p.dr t3] 28/\Ar u ((w:Nat)+1) #[iZ y.ch,iZ y.at_,iZ y.depth,Z sa y.gU C] 32/\Ad w w u)) E0 ?_
 rintro U b;obtain⟨p0,p1,p2,p3⟩:=Bi b.o.1;obtain⟨z0,z1,z2,z3⟩:=Bi b.o.2.1;have m3:=Ak b.o.2.2 M3.o;go_wp2_with fail;go_loopw [9,11,12] (λm i _ wr=>∃(m0:Int) (j:Nat),m=iZ m0/\i=iZ j/\j<= ↑f.ch/\Aa (Ar wr w #[Z r1 p.a7 r3,Z T p.aC W,sO A ok p.cC f3,Z t1 p.dr t3] 28/\Ar wr ((w:Nat)+1) #[iZ y.ch,iZ y.at_,iZ y.depth,Z sa y.gU C] 32/\Ad w w wr)) (λ_ i _ _=> ↑f.ch-(intOf i).toNat)
 case atStart=>exact⟨y.depth,0,rfl,rfl,oM,b⟩
 obtain⟨mm,j,rfl,rfl,hj,b⟩:=hrel;by_cases aF:j< ↑f.ch
 case neg=>go_wp2_with fail;go_ret;exact⟨⟨mm,rfl⟩,b.o.2.2⟩
 have aZ:(j:Int)<(f.ch:Int):=oM;obtain⟨x,hx⟩:∃x,f.ch[j]?=K x:=⟨_,an aF⟩;obtain⟨gi,oi,ci,ei,aJ,aA,_,_⟩:=KL H.o.2.2.2.2.2 hx;simp only[jc,lO]at ei;obtain⟨rfl,rfl⟩:=ei;have x0:=Ak b.o.2.2 aJ;have aD:Aa (x.op=28->∃(q:Nat) (F:MF),x.a=q/\p.cC[q]?=K F):= λe=>(H.o.1.parts.2.2.2.1 q (iV.1 H.o.2.2.1).1 f H.o.2.2.1 j (iV.1 hx).1 x hx).callee e
 by_cases a8:x.op=28;case neg=>
  have bf:(x.op != 28)=true:=by simpa using a8
  go_wp2_with fail;go_roundw;case rel=>exact⟨mm,j+1,rfl,by go_num,oM,b⟩
  exact oI
 obtain⟨l,F,aI,au⟩:=aD.o a8;rw[aI]at aA;rw[a8]at x0;have aT:=(iV.1 au).1;have aS:(l:Int)<(p.cC:Int):=oM;have aR:(l:Int)<(D:Int):=by have:=O.o.2;omega
 obtain⟨aQ,bp,aP,am,g',aG,n0,_,_,_⟩:=GO H.o.2.1.cC au;simp only[jc,lO,kK,mA,mg]at am;obtain⟨⟨rfl,rfl⟩,rfl⟩:=am;obtain⟨h1,h3,h4,h6,h7,h9,rfl⟩:=C5 aG;simp only[]at n0;obtain⟨gs,os,a1,ah,c1,es,aH⟩:=Xa H.o.2.2.2.1 (show j< ↑y.gU by have:=O.o.1;omega)
 subst es;have bj:(j:Int)<(y.gU:Int):=by have:=O.o.1;omega
 obtain⟨R,aE⟩:∃z,D[l]?=K z:=⟨_,an (by have:=O.o.2;omega)⟩;obtain⟨G,L,ea,kz⟩:∃G L,da=K ⟨G,L,M⟩/\w.cell? ⟨G,L+l,M⟩=K (iZ R):=by
  rcases H.o.2.2.2.2.1.2 with⟨e0,_⟩|⟨g1,o1,aM,e1,hc⟩
  . omega
  simp only[jc,lO]at e1;exact⟨g1,o1,e1.1,hc l _ (Ik aE)⟩
 subst ea;have HS:Aa (∀U:Y,Ar U w #[Z r1 p.a7 r3,Z T p.aC W,sO A ok p.cC f3,Z t1 p.dr t3] 28/\Ar U ((w:Nat)+1) #[iZ y.ch,iZ y.at_,iZ y.depth,sO gs os y.gU C] 32/\Ad w w U->U.cell? ⟨(w:Nat)+1,3,M⟩=K (sO gs os y.gU C)/\U.cell? ⟨gs,os+j,M⟩=K (Z a1 ah c1)/\U.cell? ⟨w,2,M⟩=K (sO A ok p.cC f3)/\U.cell? ⟨gi,oi+j*4+1,M⟩=K (iZ (l:Int))/\U.cell? ⟨A,ok+l*4,M⟩=K (Z h1 F.d5 h3)/\U.cell? ⟨G,L+l,M⟩=K (iZ R)):= λU B=>⟨(Bi B.2.1).2.2.2,Ak B.2.2 aH,(Bi B.1).2.2.1,Ak B.2.2 aA,Ak B.2.2 n0,Ak B.2.2 kz⟩
 obtain⟨d1,aW⟩:∃d1,IntKind.i64.wrap ((ah:Int)-(F.d5:Int))=d1:=⟨_,rfl⟩;obtain⟨Q,aX⟩:∃Q,IntKind.i64.wrap (d1+R)=Q:=⟨_,rfl⟩;go_upto_region 7 with fail
 have N:=Ap (ji (b.o.1.bM (Aj _)) (ji (b.o.2.1.bM (Aj _)) (Ai b.o.2.2 sP (Aj _))));refine wp_region_held_drew (S:= λU=>U.cell? ⟨(w:Nat)+1,3,M⟩=K (sO gs os y.gU C)/\U.cell? ⟨gs,os+j,M⟩=K (Z a1 ah c1)/\U.cell? ⟨w,2,M⟩=K (sO A ok p.cC f3)/\U.cell? ⟨gi,oi+j*4+1,M⟩=K (iZ (l:Int))/\U.cell? ⟨A,ok+l*4,M⟩=K (Z h1 F.d5 h3)/\U.cell? ⟨G,L+l,M⟩=K (iZ R)) kR (by exact HS.o _ N.o) (λhHeld=> ?_)
 generalize wr.drew=UD at N hHeld⊢;refine AE 0 ?_;refine AE 1 ?_;refine AE 2 ?_;refine AE 3 ?_;refine AE 4 ?_;refine AE 5 ?_;refine AE 6 ?_;refine AE 7 ?_;refine AE 8 ?_;refine AE 9 ?_;refine AE 10 ?_;refine AE 11 ?_;refine AE 12 ?_;refine AE 13 ?_;refine AE 14 ?_;refine AE 15 ?_;refine AE 16 ?_;refine AE 17 ?_;refine AE 18 ?_;refine AE 19 ?_;refine AE 20 ?_;refine AE 21 ?_;refine AE 22 ?_;refine AE 23 ?_;refine AE 24 ?_;refine AE 25 ?_;refine AE 26 ?_;refine AE 27 ?_;refine wpAnyH_done kR ?_ _;go_simp;by_cases aY:Q>mm;case pos=>
  go_wp2_with fail;go_roundw;case rel=>exact⟨Q,j+1,rfl,by go_num,oM,N⟩
  exact oI
 case neg=>
  go_wp2_with fail;go_roundw;case rel=>exact⟨mm,j+1,rfl,by go_num,oM,N⟩
  exact oI
theorem OK(u:Y)(s:Ci)(p:Int)(k l i m:Option Addr)(n c1 t c2 b c3 y c4:Nat)(g:DE u s.S s.a s.len s.cap p)(hp:p+3<=100000000000)(hf:1<=b/\b<=32):
 Ae Tryz.prog 12 #[.pointer (K ⟨s.S,0,M⟩),.agg #[Z k n c1,Z l t c2,Z i b c3,Z m y c4]] u λe V=>∃f C:Int,-40<=f/\f<=40/\e=.returned (Ac Ab f)/\DE V s.S s.a s.len s.cap C/\AM s.S u V:=by
 have a8:=g.low;have D:=Ap ((Bs.start ⟨AM.refl _ _,g,g.lt⟩).box 28 4 [Z k n c1,Z l t c2,Z i b c3,Z m y c4] rfl);clear g;go_enter Tryz.func12,Tryz.ntmps12;go_upto_region 1 with fail
 generalize u.heap.size=X at D⊢;refine An (λU=>Aa (Bs u U s p [gb X ⟨Z k n c1,Z l t c2,Z i b c3,Z m y c4⟩])) D ?_;clear D;rintro U E;have T:=(E.o.four (P:=X) (v:=⟨Z k n c1,Z l t c2,Z i b c3,Z m y c4⟩) sP).1.2.2.1;simp only[]at T;go_wp2_with fail;refine(AA E.o.gG.src).mono ?_;rintro e U1 ⟨r,h0,h1,rfl,g,j⟩;have F:=Ap (E.o.draw g j);clear g j E T;go_wp2_with fail;refine(DN F.o.gG.src).mono ?_;rintro e U2 ⟨q,rfl,g,j⟩;have A:=Ap (F.o.draw g j);clear g j F;cases q
 case false=>go_wp2_with fail;go_ret;exact⟨r,_,oM,oM,rfl,A.o.gG.src,A.o.gG.ij⟩
 case true=>
  have N:Aa (∀(W:Y) (C:Int),Bs u W s C [gb X ⟨Z k n c1,Z l t c2,Z i b c3,Z m y c4⟩]->W.cell? ⟨X,2,M⟩=K (Z i b c3)):= λW C h=>(h.four (P:=X) (v:=⟨Z k n c1,Z l t c2,Z i b c3,Z m y c4⟩) sP).1.2.2.1
  go_wp2_with fail;refine wp_region_held_drew (S:= λW=>W.cell? ⟨X,2,M⟩=K (Z i b c3)) kR (N.o _ _ (A.o.bM (Aj _))) (λI=> ?_);have B:=Ap (A.o.bM (Aj _));clear A;generalize U2.drew=U3 at B I⊢;refine AE 0 ?_;refine AE 1 ?_;refine AE 2 ?_;refine AE 3 ?_;refine AE 5 ?_;refine AE 6 ?_;refine AE 7 ?_;refine AE 8 ?_;refine rdH 4 (λKC Q=> ?_);go_simp;refine(AA B.o.gG.src).mono ?_;rintro e U4 ⟨L,g0,g1,rfl,g,j⟩;have G:=Ap (B.o.draw g j);clear g j B;refine Q.o _ _ (N.o _ _ G.o) (λI=> ?_);clear Q KC;refine AE 9 ?_;refine AE 10 ?_;refine AE 11 ?_;refine wpAnyH_done kR ?_ _;clear I;go_simp;have H:IntKind.i64.wrap ((b:Int)+1)=(b:Int)+1:=mY _ oM;have R:L=0\/L=1:=oM
  have e2:∃z:Int,IntKind.i64.wrap ((b:Int)-IntKind.i64.wrap (L*IntKind.i64.wrap ((b:Int)+1)))=z∧-40<=z/\z<=40:=by
   rw[H];rcases R with rfl|rfl
   . rw[Int.zero_mul,(mY _ oM:IntKind.i64.wrap (0:Int)=0),(mY _ oM:IntKind.i64.wrap ((b:Int)-0)=(b:Int)-0)];exact⟨_,rfl,oM,oM⟩
   rw[Int.one_mul,H,(mY _ oM:IntKind.i64.wrap ((b:Int)-((b:Int)+1))=(b:Int)-((b:Int)+1))];exact⟨_,rfl,oM,oM⟩
  obtain⟨z,O,z0,z1⟩:=e2;rw[O];clear H R O;go_wp2_with fail;go_ret;exact⟨z,_,z0,z1,rfl,G.o.gG.src,G.o.gG.ij⟩
structure BK(w u:Y)(n gB:Nat)(FS:List (J×List Nat)):Prop where
 iy:u.ownsRow w 36 1 (Z gB n n) n (FS.map Prod.fst)
 gW:CU u w (FS.map λx=>(x.1,ints x.2))
 gG:Ad w w u
theorem BK.bM{f:Y}{e:Nat}{b:List (J×List Nat)}(h:BK w u n e b)(a:Ad u u f):BK w f n e b:=⟨Am h.iy a lR,h.gW.ir a,Ai h.gG lR a⟩
theorem BK.gX{k:Y}{j g cap:Nat}{V:J}{f:List (J×List Nat)}{l:List Nat}(h:BK w u n j f)(v:f[y]?=K (V,l))(F:k.ownsRow w 2 1 (Z g (l.length+1) cap) (l.length+1) (nv l++[Ac Ab (b:Int)]))(m:u.grownBy k V.ownBlock)(A:V.ownBlock=K g\/g= ↑u):k.ownsRow w 36 1 (Z j n n) n (f.map Prod.fst)/\BK w (k.setCell ⟨j,y,M⟩ (Z g (l.length+1) cap)) n j (f.set y (Z g (l.length+1) cap,l++[b])):=by
 obtain⟨I,H⟩:=iV.1 v;have s:f=f.take y++(V,l)::f.drop (y+1):=by rw[<-H,<-mv I,mx]
 have E:(f.take y).length=y:=by rw[lj];omega
 have z:=h.gW.own (V,ints l) (lK.2 ⟨(V,l),i8 v,rfl⟩);have p:k.ownsRow w 36 1 (Z j n n) n (f.map Prod.fst):=BU h.iy m z dC;have G:f.set y (Z g (l.length+1) cap,l++[b])=f.take y++(Z g (l.length+1) cap,l++[b])::f.drop (y+1):=by have:=RD (f.take y) (f.drop (y+1)) (V,l) (Z g (l.length+1) cap,l++[b]);rw[E,<-s]at this;exact this
 have q:CU k w ((f.set y (Z g (l.length+1) cap,l++[b])).map λx=>(x.1,ints x.2)):=by have r:=h.gW;rw[s,mL,mo]at r;rw[G,mL,mo];refine CU.grow (g:=g) r ?_ rfl m (A.imp id λe=>oM);simp only[];rw[AU,kJ,kQ,<-Dk,FN];exact F
 obtain⟨C,L,B⟩:=AD p;refine⟨p,?_,⟨λx t=>kO (q.own x t) (a:=⟨j,y,M⟩) (λe=>Bu (q.own x t) B dC j e rfl) _,q.sep⟩,(h.gG.grown m h.gG.size (λi D=>(z.lt i D).1)).setCell C _⟩;have:=(p.stored y (Z g (l.length+1) cap)).1;rw[List.map_set];exact this
theorem N2{E:Nat->List Nat}{D:Nat->Nat->Bool}(a:(E b)[k]?=K y)(x:Nat):CI E D x b (k+1)=if x=y/\D y b=true then CI E D x b k++[b]else CI E D x b k:=by
 by_cases e:x=y
 . subst e;by_cases q:D x b=true
   . rw[lS ⟨rfl,q⟩,Mg a q]
   rw[lE (λr=>q r.2),IV a (λr=>q r.2)]
 rw[lE (λr=>e r.1),IV a (λr=>e r.1.symm)]
def Wi(w g:Y)(n:Nat)(E:Nat->List Nat)(O:List Nat)(D:Nat->Nat->Bool)(e:Ending):Prop:=(∃b k y:Nat,e=.returned (.tuple #[Z M 0 0,Ac Ab (y:Int)])/\FU E n (LE O D) b k y)\/∃f a,e=.returned (.tuple #[Z (K ⟨f,0,M⟩) n n,Ac Ab (-1)])/\(∀b,b<n->∀t∈E b,¬LE O D b t)/\BK w g n f a/\a.length=n/\∀x,x<n->∃V,a[x]?=K (V,AJ E D n x)
theorem LJ(G n gN cN gP cP gi ci:Nat)(E:Nat->List Nat)(O:List Nat)(I:Nat->Int)(D:Nat->Nat->Bool)(w:Y)(hn:n<=1024)(hP:DI E n (DF O))(hI:NR E n (DF O) I)(hD:∀d b,D d b=true↔Es E d b)(aM:∀b,(E b).length<=2)
 (h0:w.cell? G=K (Z gN n cN)) (hN:FR w gN 0 n E) (hG:GI w G n gP cP gi ci (DF O) I):
 Ae Tryz.prog 63 #[.pointer G] w λe w'=>Wi w w' n E O D e/\Ad w w w':=by
 obtain⟨k0,hk,bq,br,bt⟩:=lU Bt;obtain⟨j0,hj,bu,bz,bB⟩:=lU KO;have H:=Ap (ji hN (ji hG (ji hP (ji hI (ji hD (ji aM h0))))));clear hN hG hP hI hD aM;go_enter Tryz.func63,Tryz.ntmps63;go_upto_region 2 with(at_make;refine mX _ rfl _ _ 23 rfl w 36 j0 (Z M 0 0) 1 Tryz.underlying23 hj bu bz Ab Ab _ _ n rfl rfl rfl rfl (by rw[bB];omega) oX lR ?_;intro w3 R S)
 rw[EU]at R;have ao:Aa (BK w w3 n w ((List.range n).map λx=>((Z M 0 0:J),AJ E D 0 x))):=by
  refine⟨?_,⟨λx C=> ?_,?_⟩,Ca S⟩
  . rw[ni];have e:(List.range n).map (Prod.fst ∘ λx=>((Z M 0 0:J),AJ E D 0 x))=List.replicate n (Z M 0 0):=by
     apply mV;intro j;by_cases hj:j<n
     . simp[hj]
     rw[lB oT,lB oT]
    rw[e];exact R
  . simp only[lK]at C;obtain⟨y,⟨z,_,rfl⟩,rfl⟩:=C;(have:ints (AJ E D 0 z)=[]:=by simp[AJ,ints]);simp only[this];exact lq _ _ _ _
  rw[ni];refine nP.2 (oJ.imp λ_=> ?_);intro g hg;cases hg
 have x0:=Ak ao.o.gG h0;clear R S h0;obtain⟨s,aw⟩:∃s,s=w.heap.size:=⟨_,rfl⟩;have aR:Aa (s= ↑w):=aw
 rw[<-aw]at⊢;have aD:Aa (BK w w3 n s ((List.range n).map λx=>((Z M 0 0:J),AJ E D 0 x))):=by rw[aR.o];exact ao
 clear aw ao;go_wp2;go_loopw [20] (λi wr=>∃(b:Nat) (l:List (J×List Nat)),b<=n/\i=Ac Ab b/\ ↑l=n/\Aa (BK w wr n s l/\(∀x,x<n->∃V,l[x]?=K (V,AJ E D b x))/\(∀v,v<b->∀t∈E v,¬LE O D v t))) (λi _=>n-(intOf i).toNat)
 case atStart=>exact⟨0,_,oM,rfl,sP,aD.o, λx C=>⟨Z M 0 0,by simp[C]⟩, λv aI=>oM⟩
 clear aD x0;obtain⟨b,l,hb,rfl,X,f⟩:=hrel;by_cases Q:b<n
 . have bg:(b:Int)<(n:Int):=oM;obtain⟨a,ca,g0,g1⟩:=H.o.1 b Q;rw[lY]at g0;have aS:Aa (Iu w (Z a (E b).length ca) (E b)):=g1;(replace g0:=Ak f.o.1.gG g0);have bC:=H.o.2.2.2.2.2.1 b;clear g1;go_wp2;go_loopw [27] (λi wr=>∃(k:Nat) (l:List (J×List Nat)),k<=(E b).length/\i=Ac Ab k/\ ↑l=n/\Aa (BK w wr n s l/\(∀x,x<n->∃V,l[x]?=K (V,AJ E D b x++CI E D x b k))/\(∀v,v<b->∀t∈E v,¬LE O D v t)/\(∀A t,A<k->(E b)[A]?=K t->¬LE O D b t))) (λi _=>2-(intOf i).toNat)
   (case atStart=>exact⟨0,l,oM,rfl,X,f.o.1, λx C=>by obtain⟨V,hV⟩:=f.o.2.1 x C;exact⟨V,by rw[Kt,nA];exact hV⟩,f.o.2.2, λA t aX=>oM⟩);clear f g0;obtain⟨k,l,aX,rfl,X,f⟩:=hrel;by_cases aZ:k<(E b).length
   . have bG:(k:Int)<((E b).length:Int):=oM;obtain⟨y,hy⟩:∃y,(E b)[k]?=K y:=⟨_,an aZ⟩;have a8:y<n:=H.o.2.2.1.jx b Q y (i8 hy);have bI:(y:Int)<(n:Int):=oM;have HY:Aa ((E b)[k]?=K y):=hy;obtain⟨ga,oa,rfl,_,y0⟩:=aS.o.at_ hy;(replace y0:=Ak f.o.1.gG y0);have hg:=H.o.2.1.bM f.o.1.gG;have p0:=hg.p;have py:=hg.pc y a8;have pb:=hg.pc b Q;clear hy hg;have aF:Aa (¬LE O D b y->∀A L,A<k+1->(E b)[A]?=K L->¬LE O D b L):= λbi A L h1 h2=>by
      by_cases e:A=k
      . subst e;rw[HY.o]at h2;(cases h2);exact bi
      exact f.o.2.2.2 A L oM h2
     by_cases hp:DF O b<DF O y
     . have bj:(DF O b:Int)<(DF O y:Int):=oM;have P:Aa ((∀x,x<n->∃V,l[x]?=K (V,AJ E D b x++CI E D x b (k+1)))/\∀A L,A<k+1->(E b)[A]?=K L->¬LE O D b L):=by
        refine⟨λx C=> ?_,aF.o (λq=>by have:=q.1;omega)⟩;rw[N2 HY.o x,lE]
        . exact f.o.2.1 x C
        rintro⟨_,q⟩;have:=(((H.o.2.2.2.2.1 y b).1 q).ju H.o.2.2.1 Q).2.1;omega
       go_wp2;go_quiet (fail);refine A3 (λu=>Aa (BK w u n s l)) (f.o.1.bM (As _ _ _)) ?_;intro U HU;clear y0 p0 py pb;go_wp2;go_roundw;(case rel=>exact⟨k+1,l,oM,by go_num,X,HU.o,P.o.1,f.o.2.2.1,P.o.2⟩);exact oI
     have bj:¬(DF O b:Int)<(DF O y:Int):=oM;go_wp2;go_quiet (fail);refine A3 (λu=>Aa (BK w u n s l)) (f.o.1.bM (As _ _ _)) ?_;intro U HU;clear y0 p0 py pb;go_wp2_with fail;refine(OY G n gP cP gi ci y b (DF O) I U hn H.o.2.2.2.1.i7.tree H.o.2.2.1.zero H.o.2.2.1.inj a8 Q (H.o.2.2.2.1.all y a8) (H.o.2.2.2.1.all b Q) (H.o.2.1.bM HU.o.gG)).mono ?_;rintro e T ⟨m,rfl,hm,bF,hM,b5⟩;have au:Aa (m=y↔D y b=true):=by
      rw[H.o.2.2.2.2.1,<-H.o.2.2.2.1.jp y b Q];constructor
      . intro e;subst e;exact((hM m).1 .here).2
      intro q;exact Eg.jo H.o.2.2.2.1.i7.tree a8 ((hM m).1 .here).1 ((hM y).2 ⟨.here,q⟩)
     have ah:Aa (BK w T n s l):=HU.o.bM b5;clear hM b5 HU;by_cases aJ:m=y
     . subst aJ;have aE:Aa (D m b=true):=au.o.1 rfl;obtain⟨V,hV⟩:=f.o.2.1 m a8;obtain⟨W,cV,eV⟩:=Az (f.o.1.gW.own (V,ints (AJ E D b m++CI E D m b k)) (lK.2 ⟨(V,_),i8 hV,rfl⟩));simp only[AU]at eV;subst eV;(have aY:(AJ E D b m++CI E D m b k).length<=4096:=by have h1:=FW H.o.2.2.2.2.2.1 D m b;have h2:=Ju E D m b k;rw[kJ];omega);generalize aH:AJ E D b m++CI E D m b k=h at hV aY;have ae:=Ap (ji aH hV);clear hV aH au;(have aq:Aa (∀(u':Y),u'.ownsRow w 36 1 (Z s n n) n (l.map Prod.fst)->u'.cell? ⟨s,m,M⟩=K (Z W h cV)):= λu' bp=>by have:=bp.cellAt m oM;rw[lG,ae.o.2]at this;exact this);have bE:=Ag T (.cells #[Ac Ab (b:Int)] 2);have x2:=aq.o _ ah.o.iy;have aj:=Ap (ji (ah.o.bM bE) (kT ah.o.gG.size bE.size));(have aG:Aa ((T.alloc (.cells #[Ac Ab (b:Int)] 2)).ownsRow w 2 1 (Z W h cV) h (nv h)):=by have:=aj.o.1.gW.own (Z W h cV,ints h) (lK.2 ⟨(_,h),i8 ae.o.2,rfl⟩);rw[AU,<-Dk]at this;exact this);have aA:Aa (∀B F N,N.ownsRow w 2 1 (Z B (h.length+1) F) (h.length+1) (nv h++[Ac Ab (b:Int)])->(T.alloc (.cells #[Ac Ab (b:Int)] 2)).grownBy N (Z W h cV).ownBlock->((Z W h cV).ownBlock=K B\/B=(T.alloc (.cells #[Ac Ab (b:Int)] 2)).heap.size)->N.cell? ⟨s,m,M⟩=K (Z W h cV)/\N.frozen? ⟨s,m,M⟩=false/\BK w (N.setCell ⟨s,m,M⟩ (Z B (h.length+1) F)) n s (l.set m (Z B (h.length+1) F,h++[b]))):= λB F N R S am=>by obtain⟨q1,q2⟩:=aj.o.1.gX ae.o.2 R S am;exact⟨aq.o _ q1,q1.frozenAt m,q2⟩
       clear bE;go_wp2_with (at_builtin;refine wpList_append_lies _ rfl _ _ 36 rfl w 2 k0 (Ac Ab 0) 1 8 Tryz.underlying36 hk bq br bt rfl dC _ h (nv h) rfl aG.o T 1 1 [Ac Ab (b:Int)] rfl rfl (BP T (b:Int)) (λu hu=>by simp at hu;subst hu;rfl) oM (by simp[maxLen];omega) oM aj.o.2 _ rfl ?_;intro B F N R S am bf;obtain⟨t6,z6,l6⟩:=aA.o B F N R S am;have aT:Aa (BK w (N.setCell ⟨s,m,M⟩ (Z B (h.length+1) F)) n s (l.set m (Z B (h.length+1) F,h++[b]))):=l6;clear R S am bf l6);have P:Aa ((∀x,x<n->∃V,(l.set m (Z B (h.length+1) F,h++[b]))[x]?=K (V,AJ E D b x++CI E D x b (k+1)))/\∀A L,A<k+1->(E b)[A]?=K L->¬LE O D b L):=by
        refine⟨λx C=> ?_,aF.o (λq=>q.2 aE.o)⟩;rw[N2 HY.o x];by_cases e:x=m
        . subst e;refine⟨Z B (h.length+1) F,?_⟩;rw[lS ⟨rfl,aE.o⟩,<-mI,ae.o.1,mG oM]
        rw[lE (λr=>e r.1),mC (Ne.symm e)];exact f.o.2.1 x C
       clear x2 aj aG aA aq;go_roundw;(case rel=>exact⟨k+1,l.set m (Z B (h.length+1) F,h++[b]),oM,by go_num,by rw[mU];exact X,aT.o,P.o.1,f.o.2.2.1,P.o.2⟩);exact oI
     have bH:((m:Int)==(y:Int))=false:=oT;(have aW:¬D y b=true:= λq=>aJ (au.o.2 q));have aQ:Aa (FU E n (LE O D) b k y):=⟨Q,HY.o,⟨oM,aW⟩, λv A x' aI aP hl=>by
      rcases hl with q|⟨rfl,q⟩
      . exact f.o.2.2.1 v q x' (i8 aP)
      exact f.o.2.2.2 A x' q aP⟩
     go_wp2;go_ret2;exact⟨Or.inl ⟨b,k,y,rfl,aQ.o⟩,ah.o.gG⟩
   obtain rfl:k=(E b).length:=oM;have P:Aa ((∀x,x<n->∃V,l[x]?=K (V,AJ E D (b+1) x))/\∀v,v<b+1->∀t∈E v,¬LE O D v t):=by
    refine⟨λx C=>by rw[Iv];exact f.o.2.1 x C, λv aI t ht=> ?_⟩;by_cases e:v=b
    . subst e;obtain⟨q,hq⟩:=lw ht;exact f.o.2.2.2 q t (iV.1 hq).1 hq
    exact f.o.2.2.1 v oM t ht
   go_wp2;go_roundw;(case rel=>exact⟨b+1,l,oM,by go_num,X,f.o.1,P.o.1,P.o.2⟩);exact oI
 have aU:b=n:=oM;have bg:¬(b:Int)<(n:Int):=oM;rw[aU]at f;go_wp2;go_ret2;exact⟨Or.inr ⟨s,l,rfl,f.o.2.2,f.o.1,X,f.o.2.1⟩,f.o.1.gG⟩
end Go.Proofs.YtjnglocdoljgkaaGreat
