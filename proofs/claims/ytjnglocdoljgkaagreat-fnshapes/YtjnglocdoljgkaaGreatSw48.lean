import Derived.Test.YtjnglocdoljgkaaGreatSw47
namespace Go.Proofs.YtjnglocdoljgkaaGreat
open Go.ChangeShapes Go.WideShapes Go.ChangeAt Go.RowKit
set_option linter.unusedVariables false
open Go.Value renaming slice → Z,int → Ac
open Option renaming some → K,none → M
open Go renaming Value → J,World → Y,Calls → Ae,TypeId → Af
open Go.RowKit renaming Hid → Aa,Below → Ad
open Go.IntKind renaming i64 → Ab
set_option maxHeartbeats 8000000
set_option maxRecDepth 100000
variable {xs:List MI}{r:Fy}{w u:Y}{v:VP}{p:MP}{f:MF}{g:VF}{b base:Nat}{m:MB}{s:WI}{i:J}{F:List (List Int×J)}
theorem Bc.free(h:Bc xs r)(a:r.ch=0):AH xs/\∃x,xs[xs.length-1]?=K x/\DQ x=false:=by
 cases h with
 |good g x1 o1=>exact⟨g,_,x1,o1⟩
 |_=>simp[El]at a
theorem RC{q:Nat}(n:p.small)(m:A8 p 0)(h:Cz w v p)(j:p.cC[q]?=K f)(u:Dt w g f)(t:Bc f.ch r)(s:r.ch=0):IQ w v p g f:=by
 obtain⟨b,x1,z,l⟩:=t.free s;refine⟨n,m,n.func f (i8 j),h,u,b.1,b.2.1,b.2.2, λx a=> ?_, λk x a y=> ?_⟩
 . obtain⟨k,i⟩:=lw a;exact m.jk j i
 have A:=(iV.1 a).1;refine ly λe=> ?_
 have i:k= ↑f.ch-1:=oM
 rw[i,z]at a;obtain rfl:=kN a;rw[y]at l;cases l
theorem KK(v:VP)(p:MP)(G:Int)(Q:J)(i:List (List Int))(w:World)(hs:p.small)(hw:p.wf)(h:Cz w v p)(aA:Dm w v.r p.a7)(aE:GY w v.f p.cC)(aj:Dm w Q i)(aH:∀r∈i,r.length<=1048576)(aI:i.length<=1048576):
 Ae Tryz.prog 7 #[.agg #[v.r,v.k,v.f,v.t],Ac Ab G,Q] w λe w'=>AC e (B8 p G i)/\Ad w w w':=by
 have H:Aa (p.small/\p.wf/\Cz w v p/\Dm w v.r p.a7/\GY w v.f p.cC/\Dm w Q i/\(∀r∈i,r.length<=1048576)/\i.length<=1048576):=⟨hs,hw,h,aA,aE,aj,aH,aI⟩
 obtain⟨z,A,l,m,B,C,f1,f3,rfl⟩:=h.sl;obtain⟨ha,hc,rfl⟩:∃a c,Q=Z a i c:=by obtain⟨_,_,h2,_⟩:=aj;exact h2.fu
 clear hs hw h aA aE aj aH aI;generalize aG:p.cC.length=j at H⊢;have am:Aa (↑p.cC=j):=aG
 clear aG;generalize p.a7.length=s at H⊢;generalize p.aC.length=n at H⊢;generalize p.dr.length=y at H⊢;simp only[]at H;have E0:Aa (Ar (w.alloc (.cells #[Z z s A,Z l n m,Z f1 j f3,Z B y C] 28)) w #[Z z s A,Z l n m,Z f1 j f3,Z B y C] 28/\Ad w w (w.alloc (.cells #[Z z s A,Z l n m,Z f1 j f3,Z B y C] 28))):=⟨Ar.new _ _ _,Ag _ _⟩
 go_enter Tryz.func7,Tryz.ntmps7;go_upto_region 1 with fail
 refine An (λu=>Aa (Ar u w #[Z z s A,Z l n m,Z f1 j f3,Z B y C] 28/\Ad w w u)) E0 ?_
 rintro U E;clear E0;obtain⟨p0,p1,p2,p3⟩:=Bi E.o.1;go_wp2_with fail;refine(G8 ⟨Z z s A,Z l n m,Z f1 j f3,Z B y C⟩ p G U H.o.1 H.o.2.1 (H.o.2.2.1.bM E.o.2 lR) (H.o.2.2.2.1.bM E.o.2 lR) (H.o.2.2.2.2.1.bM E.o.2 lR)).mono ?_;rintro e u1 ⟨c,a,v1,n1,c1,v2,n2,c2,v3,n3,c3,v4,n4,c4,T,rfl,aw,aF,S⟩;have O:Aa ((T=true↔GJ p G)/\(T=true->∃f r,p.cC[G.toNat]?=K f/\Bc f.ch r/\r.ch=0)):=⟨aw, λe=>by obtain⟨f,r,F,ys,h1,h2,h3,_⟩:=aF e;exact⟨f,r,h1,h2,h3⟩⟩
 have E2:Aa (Ar (u1.alloc (.cells #[Ac Ab c,Ac Ab a,Z v1 n1 c1,Z v2 n2 c2,Z v3 n3 c3,Z v4 n4 c4] 45)) w #[Z z s A,Z l n m,Z f1 j f3,Z B y C] 28/\Ad w w (u1.alloc (.cells #[Ac Ab c,Ac Ab a,Z v1 n1 c1,Z v2 n2 c2,Z v3 n3 c3,Z v4 n4 c4] 45))):=⟨(E.o.1.bM S).bM (Ag _ _),Ai (Ai E.o.2 lR S) lR (Ag _ _)⟩
 clear aw aF S E p0 p1 p2 p3;go_upto_region 2 with fail
 generalize u1.heap.size=Y;refine An (λu=>Aa (Ar u w #[Z z s A,Z l n m,Z f1 j f3,Z B y C] 28/\Ad w w u)) E2 ?_
 rintro N L;clear E2;cases T
 . (have HN:Aa (¬B8 p G i):= λe=>by have:=O.o.1.2 ⟨e.1,e.2.1,by obtain⟨f,h1,h2,_⟩:=e.2.2;exact⟨f,h1,h2⟩⟩;cases this);go_wp2_with fail;go_ret;exact⟨.no HN.o,L.o.2⟩
 . have P:Aa (GJ p G):=O.o.1.1 (by first|rfl|trivial);obtain⟨f,r,I,a8,ae⟩:=O.o.2 (by first|rfl|trivial);obtain⟨q,rfl⟩:=kU P.o.2.1;rw[kM]at I;obtain⟨gk,ok,ck,aq,g,ah,m0,m1,m2,m3⟩:=GO (H.o.2.2.1.bM L.o.2 lR).cC I;simp only[jc,am.o,lO]at aq;obtain⟨rfl,rfl⟩:=aq;obtain⟨V,W,X,g6,g7,g9,rfl⟩:=C5 ah;(have aP:(q:Int)<(j:Int):=by have:=(iV.1 I).1;have:=am.o;omega);have b:Aa (p.cC[q]?=K f/\IQ N ⟨Z z s A,Z l n m,Z (K ⟨gk,ok,M⟩) j f3,Z B y C⟩ p ⟨Z V f.d5 W,Z X f.en g6,Z g7 f.ch g9⟩ f/\IJ f.ch):=⟨I,RC H.o.1 P.o.1 (H.o.2.2.1.bM L.o.2 lR) I ah a8 ae,⟨r,a8,ae⟩⟩
   clear I ah a8 ae O;simp only[]at m0 m1 m2 m3;(go_upto_region 4 with fail);have D:=Aj N;have m0:=AS D m0;have m1:=AS D m1;have m2:=AS D m2;have m3:=AS D m3;obtain⟨p0,p1,p2,p3⟩:=Bi (L.o.1.bM D);have R:Aa (IQ N.drew ⟨Z z s A,Z l n m,Z (K ⟨gk,ok,M⟩) j f3,Z B y C⟩ p ⟨Z V f.d5 W,Z X f.en g6,Z g7 f.ch g9⟩ f/\Ad w w N.drew):=⟨⟨b.o.2.1.ps,b.o.2.1.pf,b.o.2.1.fs,b.o.2.1.rp.bM D lR,b.o.2.1.rf.bM D lR,b.o.2.1.c1,b.o.2.1.cl,b.o.2.1.pl,b.o.2.1.ok,b.o.2.1.last⟩,Ai L.o.2 lR D⟩
   clear D;generalize aJ:i.length=ns at H⊢;have aM:Aa (↑i=ns):=aJ
   clear aJ;go_region_with (go_at_call 20;refine(Ln ⟨Z z s A,Z l n m,Z (K ⟨gk,ok,M⟩) j f3,Z B y C⟩ p ⟨Z V f.d5 W,Z X f.en g6,Z g7 f.ch g9⟩ f (Z ha ns hc) i N.drew R.o.1 (H.o.2.2.2.2.2.1.bM R.o.2 lR) H.o.2.2.2.2.2.2.1 (by have:=H.o.2.2.2.2.2.2.2;have:=aM.o;omega)).mono ?_;rintro e u3 ⟨⟨b3,rfl,au⟩,ao⟩;have H3:Aa ((b3=true↔Eb p f i)/\Ad w w u3):=⟨au,Ai R.o.2 lR ao⟩;clear au ao)
   all_goals
    go_wp2_with fail;go_ret;exact⟨⟨b3,rfl,H3.o.1.trans ⟨λe=>⟨P.o.1,P.o.2.1,f,by rw[kM];exact b.o.1,b.o.2.2,e⟩, λe=>by obtain⟨f',aD,_,h5⟩:=e.2.2;rw[kM,b.o.1]at aD;obtain rfl:=kN aD;exact h5⟩⟩,H3.o.2⟩
theorem MR{P:Program}(w:Y){j:Array Oper}{o:Oper}{a:Act}{f:Act->Y->Prop}{Q:Exit->Act->Y->Prop}{E:Prop}(v:o.guard=M)(l c:Operand)(t:Af)(A:o.op=Op.makeSlice t l c)
 (base:Nat) (e:Af) (i:TypeInfo) (z:J) (size:Nat) (h1:P.underlying t=K (.slice e)) (h2:P.info? e=K i) (q:i.zero=K z) (r:i.size=size)
 (h g:IntKind) (n:Nat) (y:a.eval l=.int h (n:Int)) (u:a.eval c=.int g (n:Int)) (k:i.bytes*n<=281474976710656) (m:n<=maxLen) (p:base<= ↑w)
 (s:∀b,b.ownsRow base e size (Z w n n) n (madeCells z.cells (n*size)).toList->w.grownBy b M->f (a.put o.dst (Z w n n)) b):
 if Region.wanted o (yielded j a.tmps)=true then Oper.wp P o a w f Q else E:=by
 have C:Region.wanted o (yielded j a.tmps)=true:=by simp[Region.wanted,v]
 rw[lS C];obtain⟨b,B,D,F⟩:=run_make_full (P:=P) w base t e i z size h1 h2 q r h g n k m p;unfold Oper.wp;simp[execOp,A,y,u,B,Result.andThen];exact s b D F
structure NT(w u:Y)(QB GS n:Nat):Prop where
 mp:Bo u QB 0 (.map [])
 sa:u.ownsRow w 36 1 (Z GS n n) n (List.replicate n (Z M 0 0))
 gG:Ad w w u
 q1: ↑w<=QB
 q2:QB< ↑u
 g1: ↑w<=GS
 g2:GS< ↑u
 ne:QB≠GS
theorem NT.bM{e:Y}{b GS n:Nat}(h:NT w u b GS n)(a:Ad u u e):NT w e b GS n:=⟨h.mp.bM a,Am h.sa a lR,Ai h.gG lR a,h.q1,lm h.q2 a.size,h.g1,lm h.g2 a.size,h.ne⟩
theorem NT.ty{m GS n:Nat}(h:NT w u m GS n){bv:J}{a:Nat}(z:Ar u a #[v.r,v.k,v.f,v.t,g.p,.int Ab f.gz,g.l,g.c,bv,.map (K m),Z GS n n,.int Ab 0] 84)(E: ↑u=a+1)(D:m<a)(q:GS<a)(A: ↑w<=a):Ff w u v g f bv a m GS n (a+1) 0 (List.replicate n (Z M 0 0)) ⟨λ_=>false, λ_=>[],0⟩:=by
 have s:∀(j:Nat) (V:J),(List.replicate n (Z M 0 0))[j]?=K V->V=Z M 0 0:= λj V e=>List.eq_of_mem_replicate (i8 e)
 refine⟨z,⟨0,_,h.mp,Nat.le_refl _, λb=>rfl⟩,h.sa,sP, λj V e=> ?_,h.gG,⟨A,h.q1,h.g1⟩,⟨oM,oM,h.ne,oM,oM,oM⟩,oM,sP, λj=>sP, λi j V W C y B g q=> ?_⟩
 . rw[s j V e];exact Cm.nil _ _
 rw[s i V y]at q;cases q
theorem RM{q:Prop}(h:q:=by
 have hA:=Ag U2 (.cells #[.int Ab 0] 2);have:=(E2.o.bM hA).put (t:=0) (HM.o.1.bM hA) HM.o.2.1 HM.o.2.2 hs3 hg3;have ew:(⟨IF (λ_=>false) 0, λ_=>[],0⟩:WI)=RG:=by unfold RG IF;congr 1
 rw[<-ew];exact this):q:=h
theorem LZ(w:Y)(v:VP)(p:MP)(g:VF)(f:MF)(bv:J)(hP:Cz w v p)(hF:Dt w g f)(aI:∃a n c,bv=Z a n c)(aJ:f.ch.length<=1024):
 Ae Tryz.prog 30 #[.agg #[v.r,v.k,v.f,v.t,g.p,.int Ab f.gz,g.l,g.c],bv] w λe u=>∃TB QB GS B RS,e=.returned (.pointer (K ⟨TB,0,M⟩))/\Ff w u v g f bv TB QB GS f.ch.length B 1 RS RG:=by
 obtain⟨F,G,C,E,H,I,f1,f3,rfl⟩:=hP.sl;obtain⟨m,q,s,y,z,A,rfl⟩:=C5 hF;obtain⟨l0,hl,aF,aG,aH⟩:=lU KO;obtain⟨N,P,O,rfl⟩:=aI;have aM:= @run_makeMap Tryz.prog;clear hP hF;go_enter Tryz.func30,Tryz.ntmps30;go_upto_region 1 with fail
 refine An (λu=>Aa (Ar u w #[Z F p.a7 G,Z C p.aC E,Z f1 p.cC f3,Z H p.dr I,Z m f.d5 q,.int Ab f.gz,Z s f.en y,Z z f.ch A] 53/\Ad w w u)) ⟨Ar.new _ _ _,Ag _ _⟩ ?_
 rintro U E1;have HR:Aa (Ar U.drew w #[Z F p.a7 G,Z C p.aC E,Z f1 p.cC f3,Z H p.dr I,Z m f.d5 q,.int Ab f.gz,Z s f.en y,Z z f.ch A] 53/\Ad w w U.drew):=⟨E1.o.1.bM (Aj _),Ai E1.o.2 lR (Aj _)⟩
 clear E1;have b0:U.drew.cell? w=K (Z F p.a7 G)/\U.drew.cell? ⟨w,1,M⟩=K (Z C p.aC E)/\U.drew.cell? ⟨w,2,M⟩=K (Z f1 p.cC f3)/\U.drew.cell? ⟨w,3,M⟩=K (Z H p.dr I)/\U.drew.cell? ⟨w,4,M⟩=K (Z m f.d5 q)/\U.drew.cell? ⟨w,5,M⟩=K (.int Ab f.gz)/\U.drew.cell? ⟨w,6,M⟩=K (Z s f.en y)/\U.drew.cell? ⟨w,7,M⟩=K (Z z f.ch A):=by obtain⟨W,X,q2,q3,q4,q5,q6,q7⟩:=Ix HR.o.1;exact⟨W,X,q2,q3,q4,q5,q6,q7⟩
 refine wp_region_held_drew (S:= λw'=>w'.cell? w=K (Z F p.a7 G)/\w'.cell? ⟨w,1,M⟩=K (Z C p.aC E)/\w'.cell? ⟨w,2,M⟩=K (Z f1 p.cC f3)/\w'.cell? ⟨w,3,M⟩=K (Z H p.dr I)/\w'.cell? ⟨w,4,M⟩=K (Z m f.d5 q)/\w'.cell? ⟨w,5,M⟩=K (.int Ab f.gz)/\w'.cell? ⟨w,6,M⟩=K (Z s f.en y)/\w'.cell? ⟨w,7,M⟩=K (Z z f.ch A)) kR b0 (λae=> ?_)
 clear b0;generalize U.drew=i at HR ae⊢;refine AE 0 ?_;refine AE 1 ?_;refine AE 3 ?_;refine AE 4 ?_;refine AE 5 ?_;refine AE 6 ?_;go_simp;refine wpAnyH_ready (rs:=[2,7]) kR sP ?_;refine AllReadyH.cons rfl (λKC Q=> ?_) ?_
 . have hA:=Ag i (.map #[] 0);have V:Aa (Bo (i.alloc (.map #[] 0)) i 0 (.map [])/\Ar (i.alloc (.map #[] 0)) w #[Z F p.a7 G,Z C p.aC E,Z f1 p.cC f3,Z H p.dr I,Z m f.d5 q,.int Ab f.gz,Z s f.en y,Z z f.ch A] 53/\Ad w w (i.alloc (.map #[] 0))):=⟨World.ownsMap_made _ _ _ _,HR.o.1.bM hA,Ai HR.o.2 lR hA⟩
   have b1:(i.alloc (.map #[] 0)).cell? w=K (Z F p.a7 G)/\(i.alloc (.map #[] 0)).cell? ⟨w,1,M⟩=K (Z C p.aC E)/\(i.alloc (.map #[] 0)).cell? ⟨w,2,M⟩=K (Z f1 p.cC f3)/\(i.alloc (.map #[] 0)).cell? ⟨w,3,M⟩=K (Z H p.dr I)/\(i.alloc (.map #[] 0)).cell? ⟨w,4,M⟩=K (Z m f.d5 q)/\(i.alloc (.map #[] 0)).cell? ⟨w,5,M⟩=K (.int Ab f.gz)/\(i.alloc (.map #[] 0)).cell? ⟨w,6,M⟩=K (Z s f.en y)/\(i.alloc (.map #[] 0)).cell? ⟨w,7,M⟩=K (Z z f.ch A):=by obtain⟨W,X,q2,q3,q4,q5,q6,q7⟩:=Ix V.o.2.1;exact⟨W,X,q2,q3,q4,q5,q6,q7⟩
   go_simp;refine Q.o _ _ b1 (λae=> ?_);clear Q KC b1 hA;refine rdH 7 ?_;intro KC Q;refine MR _ rfl _ _ 23 rfl w 36 l0 (Z M 0 0) 1 Tryz.underlying23 hl aF aG Ab Ab f.ch oE oE (by rw[aH];omega) oX V.o.2.2.size ?_;intro L aq aE;rw[EU]at aq;have T:Aa (NT w L i ((i:Nat)+1) f.ch/\Ar L w #[Z F p.a7 G,Z C p.aC E,Z f1 p.cC f3,Z H p.dr I,Z m f.d5 q,.int Ab f.gz,Z s f.en y,Z z f.ch A] 53):=by
    have b2:=Ca aE;have aw:=(aq.lt _ rfl).2;have hz:(i.alloc (.map #[] 0)).heap.size= ↑i+1:=sP
    simp only[]at aw;rw[hz]at aq aw;exact⟨⟨V.o.1.bM b2,aq,Ai V.o.2.2 lR b2,HR.o.2.size,oM,by have:=HR.o.2.size;omega,aw,oM⟩,V.o.2.1.bM b2⟩
   have b1:L.cell? w=K (Z F p.a7 G)/\L.cell? ⟨w,1,M⟩=K (Z C p.aC E)/\L.cell? ⟨w,2,M⟩=K (Z f1 p.cC f3)/\L.cell? ⟨w,3,M⟩=K (Z H p.dr I)/\L.cell? ⟨w,4,M⟩=K (Z m f.d5 q)/\L.cell? ⟨w,5,M⟩=K (.int Ab f.gz)/\L.cell? ⟨w,6,M⟩=K (Z s f.en y)/\L.cell? ⟨w,7,M⟩=K (Z z f.ch A):=by obtain⟨W,X,q2,q3,q4,q5,q6,q7⟩:=Ix T.o.2;exact⟨W,X,q2,q3,q4,q5,q6,q7⟩
   clear aq aE V;go_simp;refine Q.o _ _ b1 (λae=> ?_);clear Q KC b1;refine AE 8 ?_;refine rdH 9 ?_;intro KC Q;(have a8:(L:Nat)=L.heap.size:=by first|rfl|simp);have R:Aa ((L.alloc (.cells #[Z F p.a7 G,Z C p.aC E,Z f1 p.cC f3,Z H p.dr I,Z m f.d5 q,.int Ab f.gz,Z s f.en y,Z z f.ch A,Z N P O,.map (K i),Z (K ⟨((i:Nat)+1),0,M⟩) f.ch f.ch,.int Ab 0] 84)).heap.size= ↑L+1/\Ar (L.alloc (.cells #[Z F p.a7 G,Z C p.aC E,Z f1 p.cC f3,Z H p.dr I,Z m f.d5 q,.int Ab f.gz,Z s f.en y,Z z f.ch A,Z N P O,.map (K i),Z (K ⟨((i:Nat)+1),0,M⟩) f.ch f.ch,.int Ab 0] 84)) L #[Z F p.a7 G,Z C p.aC E,Z f1 p.cC f3,Z H p.dr I,Z m f.d5 q,.int Ab f.gz,Z s f.en y,Z z f.ch A,Z N P O,.map (K i),Z (K ⟨((i:Nat)+1),0,M⟩) f.ch f.ch,.int Ab 0] 84/\NT w (L.alloc (.cells #[Z F p.a7 G,Z C p.aC E,Z f1 p.cC f3,Z H p.dr I,Z m f.d5 q,.int Ab f.gz,Z s f.en y,Z z f.ch A,Z N P O,.map (K i),Z (K ⟨((i:Nat)+1),0,M⟩) f.ch f.ch,.int Ab 0] 84)) i ((i:Nat)+1) f.ch/\(i:Nat)< ↑L/\((i:Nat)+1)< ↑L/\(w:Nat)<= ↑L):=⟨sP,a8▸Ar.new _ _ _,T.o.1.bM (Ag _ _),a8▸T.o.1.q2,a8▸T.o.1.g2,a8▸T.o.1.gG.size⟩
   have aj:(L.alloc (.cells #[Z F p.a7 G,Z C p.aC E,Z f1 p.cC f3,Z H p.dr I,Z m f.d5 q,.int Ab f.gz,Z s f.en y,Z z f.ch A,Z N P O,.map (K i),Z (K ⟨((i:Nat)+1),0,M⟩) f.ch f.ch,.int Ab 0] 84)).cell? w=K (Z F p.a7 G)/\(L.alloc (.cells #[Z F p.a7 G,Z C p.aC E,Z f1 p.cC f3,Z H p.dr I,Z m f.d5 q,.int Ab f.gz,Z s f.en y,Z z f.ch A,Z N P O,.map (K i),Z (K ⟨((i:Nat)+1),0,M⟩) f.ch f.ch,.int Ab 0] 84)).cell? ⟨w,1,M⟩=K (Z C p.aC E)/\(L.alloc (.cells #[Z F p.a7 G,Z C p.aC E,Z f1 p.cC f3,Z H p.dr I,Z m f.d5 q,.int Ab f.gz,Z s f.en y,Z z f.ch A,Z N P O,.map (K i),Z (K ⟨((i:Nat)+1),0,M⟩) f.ch f.ch,.int Ab 0] 84)).cell? ⟨w,2,M⟩=K (Z f1 p.cC f3)/\(L.alloc (.cells #[Z F p.a7 G,Z C p.aC E,Z f1 p.cC f3,Z H p.dr I,Z m f.d5 q,.int Ab f.gz,Z s f.en y,Z z f.ch A,Z N P O,.map (K i),Z (K ⟨((i:Nat)+1),0,M⟩) f.ch f.ch,.int Ab 0] 84)).cell? ⟨w,3,M⟩=K (Z H p.dr I)/\(L.alloc (.cells #[Z F p.a7 G,Z C p.aC E,Z f1 p.cC f3,Z H p.dr I,Z m f.d5 q,.int Ab f.gz,Z s f.en y,Z z f.ch A,Z N P O,.map (K i),Z (K ⟨((i:Nat)+1),0,M⟩) f.ch f.ch,.int Ab 0] 84)).cell? ⟨w,4,M⟩=K (Z m f.d5 q)/\(L.alloc (.cells #[Z F p.a7 G,Z C p.aC E,Z f1 p.cC f3,Z H p.dr I,Z m f.d5 q,.int Ab f.gz,Z s f.en y,Z z f.ch A,Z N P O,.map (K i),Z (K ⟨((i:Nat)+1),0,M⟩) f.ch f.ch,.int Ab 0] 84)).cell? ⟨w,5,M⟩=K (.int Ab f.gz)/\(L.alloc (.cells #[Z F p.a7 G,Z C p.aC E,Z f1 p.cC f3,Z H p.dr I,Z m f.d5 q,.int Ab f.gz,Z s f.en y,Z z f.ch A,Z N P O,.map (K i),Z (K ⟨((i:Nat)+1),0,M⟩) f.ch f.ch,.int Ab 0] 84)).cell? ⟨w,6,M⟩=K (Z s f.en y)/\(L.alloc (.cells #[Z F p.a7 G,Z C p.aC E,Z f1 p.cC f3,Z H p.dr I,Z m f.d5 q,.int Ab f.gz,Z s f.en y,Z z f.ch A,Z N P O,.map (K i),Z (K ⟨((i:Nat)+1),0,M⟩) f.ch f.ch,.int Ab 0] 84)).cell? ⟨w,7,M⟩=K (Z z f.ch A):=by
    obtain⟨W,X,q2,q3,q4,q5,q6,q7⟩:=Ix (T.o.2.bM (Ag L (.cells #[Z F p.a7 G,Z C p.aC E,Z f1 p.cC f3,Z H p.dr I,Z m f.d5 q,.int Ab f.gz,Z s f.en y,Z z f.ch A,Z N P O,.map (K i),Z (K ⟨((i:Nat)+1),0,M⟩) f.ch f.ch,.int Ab 0] 84)));exact⟨W,X,q2,q3,q4,q5,q6,q7⟩
   go_simp;refine Q.o _ _ aj (λae=> ?_);clear Q KC;refine AE 10 ?_;refine wpAnyH_done kR ?_ _;clear ae aj;(go_upto_region 2 with fail);refine An (λu=>Aa (Ff w u ⟨Z F p.a7 G,Z C p.aC E,Z f1 p.cC f3,Z H p.dr I⟩ ⟨Z m f.d5 q,Z s f.en y,Z z f.ch A⟩ f (Z N P O) L i ((i:Nat)+1) f.ch ((L:Nat)+1) 0 (List.replicate f.ch (Z M 0 0)) ⟨λ_=>false, λ_=>[],0⟩)) (R.o.2.2.1.ty R.o.2.1 R.o.1 R.o.2.2.2.1 R.o.2.2.2.2.1 R.o.2.2.2.2.2) ?_;rintro U2 E2;clear R T a8;generalize L.heap.size=TB at E2⊢;have c9:=E2.o.tb.cell 9;simp only[kL,jt,kI]at c9;obtain⟨ah,D,au,am,ao⟩:=E2.o.mp;have HM:Aa (Bo U2 i ah D/\ah<=0/\∀b:Nat,Go.Maps.has D (.int Ab (b:Int))=false):=⟨au,am,ao⟩
   clear au am ao;go_wp2_with fail;refine(Ec i ah U2 1 D 0 _ (EP (x:=0) oM) (by have:=HM.o.2.1;omega) sP (by have:=E2.o.ne;have:=E2.o.sz;omega) (HM.o.1.bM (Ag _ _))).mono ?_;rintro e u3 ⟨rfl,hs3,hg3⟩;(have E3:Aa (Ff w u3 ⟨Z F p.a7 G,Z C p.aC E,Z f1 p.cC f3,Z H p.dr I⟩ ⟨Z m f.d5 q,Z s f.en y,Z z f.ch A⟩ f (Z N P O) TB i ((i:Nat)+1) f.ch (TB+1) 1 (List.replicate f.ch (Z M 0 0)) RG):=by exact RM);clear hs3 hg3 HM c9;go_wp2_with fail;go_ret;exact⟨TB,_,_,_,_,rfl,E3.o⟩
 refine AllReadyH.cons rfl (λKC Q=> ?_) AllReadyH.nil;refine MR _ rfl _ _ 23 rfl w 36 l0 (Z M 0 0) 1 Tryz.underlying23 hl aF aG Ab Ab f.ch oE oE (by rw[aH];omega) oX HR.o.2.size ?_;intro j aA aD;rw[EU]at aA;have V:Aa (j.ownsRow w 36 1 (Z i f.ch f.ch) f.ch (List.replicate f.ch (Z M 0 0))/\Ar j w #[Z F p.a7 G,Z C p.aC E,Z f1 p.cC f3,Z H p.dr I,Z m f.d5 q,.int Ab f.gz,Z s f.en y,Z z f.ch A] 53/\Ad w w j/\(i:Nat)< ↑j):=by have b2:=Ca aD;have aw:=(aA.lt _ rfl).2;exact⟨aA,HR.o.1.bM b2,Ai HR.o.2 lR b2,aw⟩
 have b1:j.cell? w=K (Z F p.a7 G)/\j.cell? ⟨w,1,M⟩=K (Z C p.aC E)/\j.cell? ⟨w,2,M⟩=K (Z f1 p.cC f3)/\j.cell? ⟨w,3,M⟩=K (Z H p.dr I)/\j.cell? ⟨w,4,M⟩=K (Z m f.d5 q)/\j.cell? ⟨w,5,M⟩=K (.int Ab f.gz)/\j.cell? ⟨w,6,M⟩=K (Z s f.en y)/\j.cell? ⟨w,7,M⟩=K (Z z f.ch A):=by obtain⟨W,X,q2,q3,q4,q5,q6,q7⟩:=Ix V.o.2.1;exact⟨W,X,q2,q3,q4,q5,q6,q7⟩
 clear aA aD;go_simp;refine Q.o _ _ b1 (λae=> ?_);clear Q KC b1;refine rdH 2 ?_;intro KC Q;have hA:=Ag j (.map #[] 0);have T:Aa (NT w (j.alloc (.map #[] 0)) j i f.ch/\Ar (j.alloc (.map #[] 0)) w #[Z F p.a7 G,Z C p.aC E,Z f1 p.cC f3,Z H p.dr I,Z m f.d5 q,.int Ab f.gz,Z s f.en y,Z z f.ch A] 53):=by have l1:=V.o.2.2.2;have l2:=V.o.2.2.1.size;have l3:=HR.o.2.size;exact⟨⟨World.ownsMap_made _ _ _ _,Am V.o.1 hA lR,Ai V.o.2.2.1 lR hA,l2,sP,l3,oT,oM⟩,V.o.2.1.bM hA⟩
 have b1:(j.alloc (.map #[] 0)).cell? w=K (Z F p.a7 G)/\(j.alloc (.map #[] 0)).cell? ⟨w,1,M⟩=K (Z C p.aC E)/\(j.alloc (.map #[] 0)).cell? ⟨w,2,M⟩=K (Z f1 p.cC f3)/\(j.alloc (.map #[] 0)).cell? ⟨w,3,M⟩=K (Z H p.dr I)/\(j.alloc (.map #[] 0)).cell? ⟨w,4,M⟩=K (Z m f.d5 q)/\(j.alloc (.map #[] 0)).cell? ⟨w,5,M⟩=K (.int Ab f.gz)/\(j.alloc (.map #[] 0)).cell? ⟨w,6,M⟩=K (Z s f.en y)/\(j.alloc (.map #[] 0)).cell? ⟨w,7,M⟩=K (Z z f.ch A):=by obtain⟨W,X,q2,q3,q4,q5,q6,q7⟩:=Ix T.o.2;exact⟨W,X,q2,q3,q4,q5,q6,q7⟩
 go_simp;refine Q.o _ _ b1 (λae=> ?_);clear Q KC b1 hA V;refine AE 8 ?_;refine rdH 9 ?_;intro KC Q;have a8:(j.alloc (.map #[] 0)).heap.size=((j:Nat)+1):=by first|rfl|simp
 have R:Aa (((j.alloc (.map #[] 0)).alloc (.cells #[Z F p.a7 G,Z C p.aC E,Z f1 p.cC f3,Z H p.dr I,Z m f.d5 q,.int Ab f.gz,Z s f.en y,Z z f.ch A,Z N P O,.map (K j),Z i f.ch f.ch,.int Ab 0] 84)).heap.size=((j:Nat)+1)+1/\Ar ((j.alloc (.map #[] 0)).alloc (.cells #[Z F p.a7 G,Z C p.aC E,Z f1 p.cC f3,Z H p.dr I,Z m f.d5 q,.int Ab f.gz,Z s f.en y,Z z f.ch A,Z N P O,.map (K j),Z i f.ch f.ch,.int Ab 0] 84)) ((j:Nat)+1) #[Z F p.a7 G,Z C p.aC E,Z f1 p.cC f3,Z H p.dr I,Z m f.d5 q,.int Ab f.gz,Z s f.en y,Z z f.ch A,Z N P O,.map (K j),Z i f.ch f.ch,.int Ab 0] 84/\NT w ((j.alloc (.map #[] 0)).alloc (.cells #[Z F p.a7 G,Z C p.aC E,Z f1 p.cC f3,Z H p.dr I,Z m f.d5 q,.int Ab f.gz,Z s f.en y,Z z f.ch A,Z N P O,.map (K j),Z i f.ch f.ch,.int Ab 0] 84)) j i f.ch/\ ↑j<((j:Nat)+1)/\ ↑i<((j:Nat)+1)/\ ↑w<=((j:Nat)+1)):=⟨sP,a8▸Ar.new _ _ _,T.o.1.bM (Ag _ _),a8▸T.o.1.q2,a8▸T.o.1.g2,a8▸T.o.1.gG.size⟩
 have aj:((j.alloc (.map #[] 0)).alloc (.cells #[Z F p.a7 G,Z C p.aC E,Z f1 p.cC f3,Z H p.dr I,Z m f.d5 q,.int Ab f.gz,Z s f.en y,Z z f.ch A,Z N P O,.map (K j),Z i f.ch f.ch,.int Ab 0] 84)).cell? w=K (Z F p.a7 G)/\((j.alloc (.map #[] 0)).alloc (.cells #[Z F p.a7 G,Z C p.aC E,Z f1 p.cC f3,Z H p.dr I,Z m f.d5 q,.int Ab f.gz,Z s f.en y,Z z f.ch A,Z N P O,.map (K j),Z i f.ch f.ch,.int Ab 0] 84)).cell? ⟨w,1,M⟩=K (Z C p.aC E)/\((j.alloc (.map #[] 0)).alloc (.cells #[Z F p.a7 G,Z C p.aC E,Z f1 p.cC f3,Z H p.dr I,Z m f.d5 q,.int Ab f.gz,Z s f.en y,Z z f.ch A,Z N P O,.map (K j),Z i f.ch f.ch,.int Ab 0] 84)).cell? ⟨w,2,M⟩=K (Z f1 p.cC f3)/\((j.alloc (.map #[] 0)).alloc (.cells #[Z F p.a7 G,Z C p.aC E,Z f1 p.cC f3,Z H p.dr I,Z m f.d5 q,.int Ab f.gz,Z s f.en y,Z z f.ch A,Z N P O,.map (K j),Z i f.ch f.ch,.int Ab 0] 84)).cell? ⟨w,3,M⟩=K (Z H p.dr I)/\((j.alloc (.map #[] 0)).alloc (.cells #[Z F p.a7 G,Z C p.aC E,Z f1 p.cC f3,Z H p.dr I,Z m f.d5 q,.int Ab f.gz,Z s f.en y,Z z f.ch A,Z N P O,.map (K j),Z i f.ch f.ch,.int Ab 0] 84)).cell? ⟨w,4,M⟩=K (Z m f.d5 q)/\((j.alloc (.map #[] 0)).alloc (.cells #[Z F p.a7 G,Z C p.aC E,Z f1 p.cC f3,Z H p.dr I,Z m f.d5 q,.int Ab f.gz,Z s f.en y,Z z f.ch A,Z N P O,.map (K j),Z i f.ch f.ch,.int Ab 0] 84)).cell? ⟨w,5,M⟩=K (.int Ab f.gz)/\((j.alloc (.map #[] 0)).alloc (.cells #[Z F p.a7 G,Z C p.aC E,Z f1 p.cC f3,Z H p.dr I,Z m f.d5 q,.int Ab f.gz,Z s f.en y,Z z f.ch A,Z N P O,.map (K j),Z i f.ch f.ch,.int Ab 0] 84)).cell? ⟨w,6,M⟩=K (Z s f.en y)/\((j.alloc (.map #[] 0)).alloc (.cells #[Z F p.a7 G,Z C p.aC E,Z f1 p.cC f3,Z H p.dr I,Z m f.d5 q,.int Ab f.gz,Z s f.en y,Z z f.ch A,Z N P O,.map (K j),Z i f.ch f.ch,.int Ab 0] 84)).cell? ⟨w,7,M⟩=K (Z z f.ch A):=by
  obtain⟨W,X,q2,q3,q4,q5,q6,q7⟩:=Ix (T.o.2.bM (Ag (j.alloc (.map #[] 0)) (.cells #[Z F p.a7 G,Z C p.aC E,Z f1 p.cC f3,Z H p.dr I,Z m f.d5 q,.int Ab f.gz,Z s f.en y,Z z f.ch A,Z N P O,.map (K j),Z i f.ch f.ch,.int Ab 0] 84)));exact⟨W,X,q2,q3,q4,q5,q6,q7⟩
 go_simp;refine Q.o _ _ aj (λae=> ?_);clear Q KC;refine AE 10 ?_;refine wpAnyH_done kR ?_ _;clear ae aj;go_upto_region 2 with fail
 refine An (λu=>Aa (Ff w u ⟨Z F p.a7 G,Z C p.aC E,Z f1 p.cC f3,Z H p.dr I⟩ ⟨Z m f.d5 q,Z s f.en y,Z z f.ch A⟩ f (Z N P O) ((j:Nat)+1) j i f.ch (((j:Nat)+1)+1) 0 (List.replicate f.ch (Z M 0 0)) ⟨λ_=>false, λ_=>[],0⟩)) (R.o.2.2.1.ty R.o.2.1 R.o.1 R.o.2.2.2.1 R.o.2.2.2.2.1 R.o.2.2.2.2.2) ?_;rintro U2 E2;clear R T a8;generalize (j.heap.size+1)=TB at E2⊢;have c9:=E2.o.tb.cell 9;simp only[kL,jt,kI]at c9;obtain⟨ah,D,au,am,ao⟩:=E2.o.mp;have HM:Aa (Bo U2 j ah D/\ah<=0/\∀b:Nat,Go.Maps.has D (.int Ab (b:Int))=false):=⟨au,am,ao⟩
 clear au am ao;go_wp2_with fail;refine(Ec j ah U2 1 D 0 _ (EP (x:=0) oM) (by have:=HM.o.2.1;omega) sP (by have:=E2.o.ne;have:=E2.o.sz;omega) (HM.o.1.bM (Ag _ _))).mono ?_;rintro e u3 ⟨rfl,hs3,hg3⟩;have E3:Aa (Ff w u3 ⟨Z F p.a7 G,Z C p.aC E,Z f1 p.cC f3,Z H p.dr I⟩ ⟨Z m f.d5 q,Z s f.en y,Z z f.ch A⟩ f (Z N P O) TB j i f.ch (TB+1) 1 (List.replicate f.ch (Z M 0 0)) RG):=by exact RM
 clear hs3 hg3 HM c9;go_wp2_with fail;go_ret;exact⟨TB,_,_,_,_,rfl,E3.o⟩
theorem Uf(p:MP)(f:MF)(c:Nat):∀(a:Nat) (sh:List Int) (T:Nat->List Int) (D:Nat),(∀j,(T j).length<=D)->sh.length<=D->∀i e b,Cv p f c a sh T D=.inr (i,e,b)->(∀j,(e j).length<=b)/\i.length<=b:=by
 induction c with
 | zero=>intro a sh T D g k i e b h;simp only[Cv,Sum.inr.injEq,Prod.mk.injEq]at h;obtain⟨rfl,rfl,rfl⟩:=h;exact⟨g,k⟩
 | succ c m=>
   intro a sh T D g k i e b h;cases hx:f.ch[a]? with
   | none=>simp only[Cv,hx,Sum.inr.injEq,Prod.mk.injEq]at h;obtain⟨rfl,rfl,rfl⟩:=h;exact⟨g,k⟩
   | some x=>
     simp only[Cv,hx]at h;by_cases l:A6 p f x sh=0
     . rw[lS l]at h;refine m _ _ _ _ (λj=> ?_) oM _ _ _ h;simp only[CE];split
       . omega
       have:=g j;omega
     rw[lE l]at h;cases h
theorem Ss{g:List MB}{sh:List Int}{D:Nat}(i: ↑sh<=D)(nx:List Nat):∀(C:Nat->Bool) (R:Nat->List Int),(∀j,(R j).length<=D)->∀e a,Ev g nx sh C R=K (e,a)->∀j,(a j).length<=D:=by
 induction nx with
 | nil=>intro C R b e a h;simp only[Ev,kK,Prod.mk.injEq]at h;rw[<-h.2];exact b
 | cons t nx f=>
   intro C R b e a h;rw[Ev]at h;split at h
   . split at h
     . exact f _ _ b _ _ h
     cases h
   refine f _ _ (λj=> ?_) _ _ h;simp only[CE];split
   . exact i
   exact b j
theorem SP{b:List MB}{a:WI}(g:∀j,(s.r j).length<=s.d)(h:Gc p f b m s=.inr a):∀j,(a.r j).length<=a.d:=by
 unfold Gc at h;cases hk:Cv p f (m.last-m.gK+1).toNat m.gK.toNat (s.r m.gK.toNat) s.r s.d with
 |inl e=>rw[hk]at h;cases h
 | inr q=>
   obtain⟨sh,R,D⟩:=q;rw[hk]at h;obtain⟨h1,h2⟩:=Uf p f _ _ _ _ _ g (g _) _ _ _ hk;simp only[]at h;cases hm:Ev b (m.next.map Int.toNat) sh s.c R with
   |none=>rw[hm]at h;cases h
   | some q=>obtain⟨i,k⟩:=q;rw[hm]at h;simp only[Sum.inr.injEq]at h;subst h;exact Ss h2 _ _ _ h1 _ _ hm
theorem Uh{a:List MB}{g:List Int}{k:Nat}{z:Int}{i:Nc}(h:Gd p f a ((g.map Int.toNat).drop k) s=i)(n:g[k]?=K z)(j:z=(b:Int))(l:a[b]?=K m):(match Gc p f a m s with|.inl e=>Sum.inl e|.inr s'=>Gd p f a ((g.map Int.toNat).drop (k+1)) s')=i:=by
 have e:(g.map Int.toNat)[k]?=K b:=by rw[lG,n,j];simp
 rw[Ki e,Gd,l]at h;exact h
theorem IQ.bM{b:Y}(h:IQ w v p g f)(a:Ad w w b):IQ b v p g f:=⟨h.ps,h.pf,h.fs,h.rp.bM a lR,h.rf.bM a lR,h.c1,h.cl,h.pl,h.ok,h.last⟩
theorem Dg.jv{i:Y}{b g e f:J}(h:Dg w b g e f r)(a:Ad w w i):Dg i b g e f r:=⟨h.ej.bM a lR,h.gJ.bM a lR,h.gS.bM a lR,h.gI.bM a lR⟩
theorem SJ{f j g:J}(h:Dg w f j i g r):∃v1 c1 v2 c2 v3 c3 b c4,f=Z v1 r.ej c1/\j=Z v2 r.gJ c2/\i=Z v3 r.gS c3/\g=Z b r.gI c4:=by
 obtain⟨v1,c1,k⟩:∃a c,f=Z a r.ej c:=by obtain⟨_,_,h2,_⟩:=h.ej;exact h2.fu
 obtain⟨v2,c2,l⟩:=h.gJ.fu;obtain⟨v3,c3,e3⟩:=h.gS.fu;obtain⟨b,c4,e4⟩:∃a c,g=Z a r.gI c:=by obtain⟨_,_,h2,_⟩:=h.gI;exact h2.fu
 exact⟨v1,c1,v2,c2,v3,c3,b,c4,k,l,e3,e4⟩
structure Xu(xs:List MI)(r:Fy):Prop where
 gR:Mc xs r.ej
 nb:r.ej.length<=1024
 two:∀m∈r.ej,m.next.length<=2
 len:r.gJ.length<=1024
 ord:∀z∈r.gJ,∃b:Nat,z=(b:Int)/\b< ↑r.ej
 nxt:∀(b:Nat) (m:MB),r.ej[b]?=K m->∀z∈m.next,∃t:Nat,z=(t:Int)/\t< ↑r.ej
theorem Bc.kB(h:Bc xs r)(a:r.ch=0):Xu xs r:=by
 have f:=h.ii a;cases h with
 |none _=>cases a
 |off _ _ _=>cases a
 |lost _ _ _ _ _ _ _ _=>cases a
 |two _ _ _ _ _ _ _ _=>cases a
 | good g x1 o1 v1 s1 d1 b1 i1 l1=>
   obtain⟨n,p,j,l,_⟩:=Cx (Dj g) (Io g) v1 s1;refine⟨N5 g,f.nb,f.two,?_, λz e=> ?_, λb m k z e=> ?_⟩
   . simp only[];rw[AU,mF,j];exact Eo g
   . obtain⟨b,i,rfl⟩:=lK.1 e;exact⟨b,rfl,(l b).1 (mT.1 i)⟩
   obtain⟨h1,h2⟩:=GG g k e;exact⟨z.toNat,(nE h1).symm,oS⟩
def TyO(w:Y)(y:RQ)(e:Ending)(a:Y):Prop:=∃(s:J) (F:List (List Int×J)),e=.returned (.agg #[Ac Ab y.ch,Ac Ab y.at_,Ac Ab y.depth,s])/\FV a w s F/\F.map Prod.fst=y.gU/\F.length<=1024/\(∀x∈F,x.1.length<=64)/\Ad w w a
theorem O4(u:Y)(b:Nat):FV u b (Z M 0 0) []:=⟨lq _ _ _ _,⟨λx a=>(by cases a),.nil⟩⟩
theorem Ff.told{bv:J}{H G GS n B N:Nat}{b:List J}(h:Ff w u v g f bv H G GS n B N b s){X:Nat}(I:base<= ↑w)(hX:X< ↑w)(x0 x1 x2 x3:J):FV ((((u.setCell X x0).setCell ⟨X,1,M⟩ x1).setCell ⟨X,2,M⟩ x2).setCell ⟨X,3,M⟩ x3) base (Z GS n n) (((List.range n).map s.r).zip b)/\(((List.range n).map s.r).zip b).map Prod.fst=(List.range n).map s.r/\(((List.range n).map s.r).zip b).length=n/\∀x∈((List.range n).map s.r).zip b,x.1.length<=64:=by
 obtain⟨n1,n2,n3,n4,n5,n6⟩:=h.ne;obtain⟨l1,l2,l3⟩:=h.lo;have t:((List.range n).map s.r).length=b.length:=by simp[h.sl]
 have hat:∀(j:Nat) (x:List Int×J),(((List.range n).map s.r).zip b)[j]?=K x->s.r j=x.1/\b[j]?=K x.2:= λj x k=>by
  obtain⟨p,l⟩:((List.range n).map s.r)[j]?=K x.1/\b[j]?=K x.2:=List.getElem?_zip_eq_some.1 k
  rw[lG]at p;obtain⟨q,Q,S⟩:=mK.1 p;obtain⟨i1,F⟩:=iV.1 Q;rw[List.getElem_range]at F;subst F;exact⟨S,l⟩
 have D:(((List.range n).map s.r).zip b).length=n:=by rw[List.length_zip,t];simp[h.sl]
 refine⟨⟨?_, λx z=> ?_,?_⟩,List.map_fst_zip (Nat.le_of_eq t),D, λx z=> ?_⟩
 . have e:(((List.range n).map s.r).zip b).flatMap AZ=b:=by
    have:∀(A:List (List Int)) (R:List J),A.length= ↑R->(A.zip R).flatMap AZ=R:=by
     intro A;induction A with
     |nil=>intro R h;cases R with|nil=>rfl|cons _ _=>simp at h
     | cons a A W=>intro R h;cases R with
       |nil=>simp at h
       |cons v R=>rw[List.zip_cons_cons,kX,W R (by simpa using h)];rfl
    exact this _ _ t
   rw[e,D];exact Bb (lL (lL (lL (lL h.sa oS _) oS _) oS _) oS _) I
 . obtain⟨y,T,rfl⟩:=lK.1 z;obtain⟨j,k⟩:=lw T;obtain⟨p,l⟩:=hat j y k;have C:=h.rs j y.2 l;rw[p]at C;exact Bb ((((C.set (a:=⟨X,0,M⟩) oS _).set (a:=⟨X,1,M⟩) oS _).set (a:=⟨X,2,M⟩) oS _).set (a:=⟨X,3,M⟩) oS _) oM
 . unfold Wf;rw[nP,nN];intro i j O k a8 g L;obtain⟨_,l⟩:=hat i _ (an O);obtain⟨_,e4⟩:=hat j _ (an k);exact h.ap i j _ _ oM l e4 g L
 obtain⟨j,k⟩:=lw z;rw[<-(hat j x k).1];exact h.rl j
theorem Pq(w:Y)(v:VP)(p:MP)(g:VF)(f:MF)(r:Fy)(fc fa:Int)(vb vo vi vl:J)(ah:IQ w v p g f)(aG:Bc f.ch r)(h0:r.ch=0)(aH:Dg w vb vo vi vl r):
 Ae Tryz.prog 14 #[.agg #[v.r,v.k,v.f,v.t,g.p,Ac Ab f.gz,g.l,g.c],.agg #[Ac Ab fc,Ac Ab fa,vb,vo,vi,vl]] w (TyO w (Lv f.ch (Ds p f r.ej (r.gJ.map Int.toNat) Jo))):=by
 obtain⟨O,Q,L,N,T,W,f1,f3,rfl⟩:=ah.rp.sl;obtain⟨y,A,C,D,F,I,rfl⟩:=C5 ah.rf;obtain⟨v1,c1,v2,c2,v3,c3,v4,c4,rfl,rfl,rfl,rfl⟩:=SJ aH;rw[Xd aG h0];obtain⟨ae,aE⟩:∃R,R=Gd p f r.ej (r.gJ.map Int.toNat) RG:=⟨_,rfl⟩;rw[<-aE];have aI:Aa (Gd p f r.ej (r.gJ.map Int.toNat) RG=ae):=aE.symm;have HO:Aa (Xu f.ch r):=aG.kB h0;have H:Aa (IQ w ⟨Z O p.a7 Q,Z L p.aC N,Z f1 p.cC f3,Z T p.dr W⟩ p ⟨Z y f.d5 A,Z C f.en D,Z F f.ch I⟩ f/\Dg w (Z v1 r.ej c1) (Z v2 r.gJ c2) (Z v3 r.gS c3) (Z v4 r.gI c4) r):=⟨ah,aH⟩
 have aT:f.ch.length<=1024:=ah.cl;have bu:r.gJ.length<=1024:=HO.o.len;have E0:Ar (((w.alloc (.cells #[Z O p.a7 Q,Z L p.aC N,Z f1 p.cC f3,Z T p.dr W,Z y f.d5 A,Ac Ab f.gz,Z C f.en D,Z F f.ch I] 53)).alloc (.cells #[Ac Ab fc,Ac Ab fa,Z v1 r.ej c1,Z v2 r.gJ c2,Z v3 r.gS c3,Z v4 r.gI c4] 45)).alloc (.cells #[Ac Ab 0,Ac Ab 0,Ac Ab 0,Z M 0 0] 32)) w #[Z O p.a7 Q,Z L p.aC N,Z f1 p.cC f3,Z T p.dr W,Z y f.d5 A,Ac Ab f.gz,Z C f.en D,Z F f.ch I] 53/\Ar (((w.alloc (.cells #[Z O p.a7 Q,Z L p.aC N,Z f1 p.cC f3,Z T p.dr W,Z y f.d5 A,Ac Ab f.gz,Z C f.en D,Z F f.ch I] 53)).alloc (.cells #[Ac Ab fc,Ac Ab fa,Z v1 r.ej c1,Z v2 r.gJ c2,Z v3 r.gS c3,Z v4 r.gI c4] 45)).alloc (.cells #[Ac Ab 0,Ac Ab 0,Ac Ab 0,Z M 0 0] 32)) ((w:Nat)+1) #[Ac Ab fc,Ac Ab fa,Z v1 r.ej c1,Z v2 r.gJ c2,Z v3 r.gS c3,Z v4 r.gI c4] 45/\Ar (((w.alloc (.cells #[Z O p.a7 Q,Z L p.aC N,Z f1 p.cC f3,Z T p.dr W,Z y f.d5 A,Ac Ab f.gz,Z C f.en D,Z F f.ch I] 53)).alloc (.cells #[Ac Ab fc,Ac Ab fa,Z v1 r.ej c1,Z v2 r.gJ c2,Z v3 r.gS c3,Z v4 r.gI c4] 45)).alloc (.cells #[Ac Ab 0,Ac Ab 0,Ac Ab 0,Z M 0 0] 32)) ((w:Nat)+1+1) #[Ac Ab 0,Ac Ab 0,Ac Ab 0,Z M 0 0] 32/\Ad w w (((w.alloc (.cells #[Z O p.a7 Q,Z L p.aC N,Z f1 p.cC f3,Z T p.dr W,Z y f.d5 A,Ac Ab f.gz,Z C f.en D,Z F f.ch I] 53)).alloc (.cells #[Ac Ab fc,Ac Ab fa,Z v1 r.ej c1,Z v2 r.gJ c2,Z v3 r.gS c3,Z v4 r.gI c4] 45)).alloc (.cells #[Ac Ab 0,Ac Ab 0,Ac Ab 0,Z M 0 0] 32)):=by
  obtain⟨e1,e2,e3⟩:=Ef w #[Z O p.a7 Q,Z L p.aC N,Z f1 p.cC f3,Z T p.dr W,Z y f.d5 A,Ac Ab f.gz,Z C f.en D,Z F f.ch I] #[Ac Ab fc,Ac Ab fa,Z v1 r.ej c1,Z v2 r.gJ c2,Z v3 r.gS c3,Z v4 r.gI c4] 53 45;have hz:((w.alloc (.cells #[Z O p.a7 Q,Z L p.aC N,Z f1 p.cC f3,Z T p.dr W,Z y f.d5 A,Ac Ab f.gz,Z C f.en D,Z F f.ch I] 53)).alloc (.cells #[Ac Ab fc,Ac Ab fa,Z v1 r.ej c1,Z v2 r.gJ c2,Z v3 r.gS c3,Z v4 r.gI c4] 45)).heap.size= ↑w+1+1:=sP
  have e4:=Ar.new ((w.alloc (.cells #[Z O p.a7 Q,Z L p.aC N,Z f1 p.cC f3,Z T p.dr W,Z y f.d5 A,Ac Ab f.gz,Z C f.en D,Z F f.ch I] 53)).alloc (.cells #[Ac Ab fc,Ac Ab fa,Z v1 r.ej c1,Z v2 r.gJ c2,Z v3 r.gS c3,Z v4 r.gI c4] 45)) #[Ac Ab 0,Ac Ab 0,Ac Ab 0,Z M 0 0] 32;rw[hz]at e4;exact⟨e1.bM (Ag _ _),e2.bM (Ag _ _),e4,Ai e3 lR (Ag _ _)⟩
 clear ah aH aG aE h0;go_enter Tryz.func14,Tryz.ntmps14;go_upto_region 1 with fail
 refine An (λu=>Aa (Ar u w #[Z O p.a7 Q,Z L p.aC N,Z f1 p.cC f3,Z T p.dr W,Z y f.d5 A,Ac Ab f.gz,Z C f.en D,Z F f.ch I] 53/\Ar u ((w:Nat)+1) #[Ac Ab fc,Ac Ab fa,Z v1 r.ej c1,Z v2 r.gJ c2,Z v3 r.gS c3,Z v4 r.gI c4] 45/\Ar u ((w:Nat)+1+1) #[Ac Ab 0,Ac Ab 0,Ac Ab 0,Z M 0 0] 32/\Ad w w u)) E0 ?_
 rintro U E1;clear E0;obtain⟨s0,s1,s2,s3,s4,s5,s6,s7⟩:=Ix E1.o.1;obtain⟨y0,y1,y2,y3,y4,y5⟩:=Dq E1.o.2.1;go_wp2_with fail;refine(LZ U ⟨Z O p.a7 Q,Z L p.aC N,Z f1 p.cC f3,Z T p.dr W⟩ p ⟨Z y f.d5 A,Z C f.en D,Z F f.ch I⟩ f (Z v1 r.ej c1) (H.o.1.rp.bM E1.o.2.2.2 lR) (H.o.1.rf.bM E1.o.2.2.2 lR) ⟨_,_,_,rfl⟩ aT).mono ?_;rintro e u1 ⟨TB,QB,GS,B,RS,rfl,aj⟩;have E2:Aa (Ff U u1 ⟨Z O p.a7 Q,Z L p.aC N,Z f1 p.cC f3,Z T p.dr W⟩ ⟨Z y f.d5 A,Z C f.en D,Z F f.ch I⟩ f (Z v1 r.ej c1) TB QB GS f.ch B 1 RS RG):=aj;have HE:Aa (Ar U w #[Z O p.a7 Q,Z L p.aC N,Z f1 p.cC f3,Z T p.dr W,Z y f.d5 A,Ac Ab f.gz,Z C f.en D,Z F f.ch I] 53/\Ar U ((w:Nat)+1) #[Ac Ab fc,Ac Ab fa,Z v1 r.ej c1,Z v2 r.gJ c2,Z v3 r.gS c3,Z v4 r.gI c4] 45/\Ar U ((w:Nat)+1+1) #[Ac Ab 0,Ac Ab 0,Ac Ab 0,Z M 0 0] 32/\Ad w w U/\IQ U ⟨Z O p.a7 Q,Z L p.aC N,Z f1 p.cC f3,Z T p.dr W⟩ p ⟨Z y f.d5 A,Z C f.en D,Z F f.ch I⟩ f/\Dg U (Z v1 r.ej c1) (Z v2 r.gJ c2) (Z v3 r.gS c3) (Z v4 r.gI c4) r):=⟨E1.o.1,E1.o.2.1,E1.o.2.2.1,E1.o.2.2.2,H.o.1.bM E1.o.2.2.2,H.o.2.jv E1.o.2.2.2⟩
 have aU:(w:Nat)+1+1<U.heap.size:=E1.o.2.2.1.lt;clear aj E1 s0 s1 s2 s3 s4 s5 s6 s7 y0 y1 y2 y3 y4 y5;obtain⟨y0,y1,y2,y3,y4,y5⟩:=Dq (HE.o.2.1.bM E2.o.gG);go_wp2_with fail;clear y0 y1 y2 y3 y4 y5;go_loopw [16] (λi wr=>∃(k:Nat) (RS:List J) (s:WI),k<= ↑r.gJ/\i=Ac Ab k/\Aa (Gd p f r.ej ((r.gJ.map Int.toNat).drop k) s=ae/\∀j,(s.r j).length<=s.d)/\Aa (Ff U wr ⟨Z O p.a7 Q,Z L p.aC N,Z f1 p.cC f3,Z T p.dr W⟩ ⟨Z y f.d5 A,Z C f.en D,Z F f.ch I⟩ f (Z v1 r.ej c1) TB QB GS f.ch B (2*k+1) RS s)) (λi _=> ↑r.gJ-(intOf i).toNat)
 case atStart=>exact⟨0,RS,RG,oM,rfl,⟨by rw[List.drop_zero];exact aI.o, λj=>by simp[RG]⟩,E2⟩
 case round=>
 clear E2 aI;clear RS;obtain⟨k,RS,s,hk,rfl,HS,E⟩:=hrel;obtain⟨y0,y1,y2,y3,y4,y5⟩:=Dq (HE.o.2.1.bM E.o.gG);by_cases aZ:k< ↑r.gJ
 case pos=>
  obtain⟨z,hz⟩:∃z,r.gJ[k]?=K z:=⟨_,an aZ⟩;obtain⟨b,ez,hb⟩:=HO.o.ord z (i8 hz);subst ez;obtain⟨m,hm⟩:∃m,r.ej[b]?=K m:=⟨_,an hb⟩;obtain⟨ma,me,aA,aD,br,bt⟩:=HO.o.gR.part b m hm;obtain⟨gb,ob,xa,xc,ev,x0,x1,x2,a8⟩:=Nf HE.o.2.2.2.2.2.ej hm;subst ev;rw[aA,<-E.o.gG.cell (jC x0)]at x0;rw[aD,<-E.o.gG.cell (jC x1)]at x1;rw[<-E.o.gG.cell (jC x2)]at x2;rcases HE.o.2.2.2.2.2.gJ.2 with⟨q0,_⟩|⟨gd,od,cd,q1,aS⟩
  . omega
  simp only[jc,lO]at q1;obtain⟨bf,bg⟩:=q1;subst bf;have z0:=Rd.elem Ao aS k _ hz 0 _ rfl;rw[lr,kZ,<-E.o.gG.cell (jC z0)]at z0;have HZ:Aa (r.gJ[k]?=K (b:Int)/\r.ej[b]?=K m/\m.gK=(ma:Int)/\m.last=(me:Int)/\Rd U 1 (Z xa m.next xc) m.next (m.next.flatMap Ah)):=⟨hz,hm,aA,aD,a8⟩
  have bj:(b:Int)<(r.ej:Int):=oM;have aY:(k:Int)<(r.gJ:Int):=oM;clear aS hz hm aA aD a8 bg;go_wp2_with fail;refine(Pp U wr ⟨Z O p.a7 Q,Z L p.aC N,Z f1 p.cC f3,Z T p.dr W⟩ p ⟨Z y f.d5 A,Z C f.en D,Z F f.ch I⟩ f (Z (K ⟨gb,ob,M⟩) r.ej c1) (Z xa m.next xc) TB QB GS B (2*k+1) RS s r.ej b m ma me E.o HE.o.2.2.2.2.1 HE.o.2.2.2.2.2.ej HO.o.gR HZ.o.2.1 HZ.o.2.2.1 HZ.o.2.2.2.1 HZ.o.2.2.2.2 (HO.o.two m (i8 HZ.o.2.1)) (HO.o.nxt b m HZ.o.2.1) HO.o.nb oM (HS.o.2 ma)).mono ?_;intro e u2 am;have hat:=Uh HS.o.1 HZ.o.1 rfl HZ.o.2.1;clear x0 x1 x2 z0 y0 y1 y2 y3 y4 y5;cases a8:Gc p f r.ej m s with
  | inl q=>
    obtain⟨c,a⟩:=q;rw[a8]at am hat;obtain⟨rfl,aW,b2⟩:=am;have ao:Aa (ae=.inl (c,a)):=hat.symm;(have bp:(c != 0)=true:=by simpa using aW);clear hat a8 E;(go_upto_region 6 with fail);refine An (λu=>Aa (Ar u u2 #[Ac Ab c,Ac Ab (a:Int),Ac Ab 0,Z M 0 0] 32/\Ad U U u)) ⟨Ar.new _ _ _,Ai b2 lR (Ag _ _)⟩ ?_
    rintro U3 E3;generalize u2.heap.size=Y3 at E3⊢;clear b2;obtain⟨x0,x1,x2,x3⟩:=Bi E3.o.1;obtain⟨q0,q1,q2,q3⟩:=Bi (HE.o.2.2.1.bM E3.o.2);obtain⟨aJ,aM,aP,aQ⟩:=Qj (HE.o.2.2.1.bM E3.o.2);go_wp2_with fail;have G:Aa _:=((((HE.o.2.2.1.bM E3.o.2).set 0 (Ac Ab (c))).set 1 (Ac Ab ((a:Int)))).set 2 (Ac Ab (0))).set 3 (Z M 0 0);simp only[kV,lI,lM]at G;clear q0 q1 q2 q3;obtain⟨q0,q1,q2,q3⟩:=Bi G.o;refine kY (v:=.agg #[Ac Ab (c),Ac Ab ((a:Int)),Ac Ab (0),Z M 0 0]) (by simp[results,Tryz.results14,go_sem,q0,q1,q2,q3]) rfl ?_;have aF:=Ai HE.o.2.2.2.1 lR E3.o.2;rw[ao.o];exact⟨Z M 0 0,[],rfl,O4 _ _,rfl,sP, λx hx=>(by cases hx),((((aF.setCell oS _).setCell oS _).setCell oS _).setCell oS _)⟩
  | inr s'=>
    rw[a8]at am hat;obtain⟨rfl,aq,N',bi,aj⟩:=am;have HN:Aa (Gd p f r.ej ((r.gJ.map Int.toNat).drop (k+1)) s'=ae/\∀j,(s'.r j).length<=s'.d):=⟨hat,SP HS.o.2 a8⟩
    have E3:Aa (Ff U u2 ⟨Z O p.a7 Q,Z L p.aC N,Z f1 p.cC f3,Z T p.dr W⟩ ⟨Z y f.d5 A,Z C f.en D,Z F f.ch I⟩ f (Z (K ⟨gb,ob,M⟩) r.ej c1) TB QB GS f.ch B (2*(k+1)+1) aq s'):=aj.more oM;clear hat a8 aj E;(go_upto_region 6 with fail);refine An (λu=>Aa (Ar u u2 #[Ac Ab 0,Ac Ab 0,Ac Ab 0,Z M 0 0] 32/\Ff U u ⟨Z O p.a7 Q,Z L p.aC N,Z f1 p.cC f3,Z T p.dr W⟩ ⟨Z y f.d5 A,Z C f.en D,Z F f.ch I⟩ f (Z (K ⟨gb,ob,M⟩) r.ej c1) TB QB GS f.ch B (2*(k+1)+1) aq s')) ⟨Ar.new _ _ _,E3.o.bM (Ag _ _)⟩ ?_
    rintro U3 E4;generalize u2.heap.size=Y3 at E4⊢;clear E3;obtain⟨x0,x1,x2,x3⟩:=Bi E4.o.1;go_wp2_with fail;go_roundw;(case rel=>exact⟨k+1,aq,s',oM,by go_num,HN,E4.o.2⟩);exact oI
 case neg=>
  have bq:k=r.gJ.length:=oM;have ao:Aa (ae=.inr s):=by have:=HS.o.1;have aX:(r.gJ.map Int.toNat).drop k=[]:=List.drop_eq_nil_of_le (by rw[kW];omega);rw[aX,Gd]at this;exact this.symm
  have aY:¬(k:Int)<(r.gJ:Int):=oM;go_upto_region 9 with fail
  clear y0 y1 y2 y3 y4 y5;have HR:Aa (Ff U wr.drew ⟨Z O p.a7 Q,Z L p.aC N,Z f1 p.cC f3,Z T p.dr W⟩ ⟨Z y f.d5 A,Z C f.en D,Z F f.ch I⟩ f (Z v1 r.ej c1) TB QB GS f.ch B (2*k+1) RS s):=E.o.bM (Aj _);clear E;have au:wr.drew.cell? ⟨TB,10,M⟩=K (Z GS f.ch f.ch):=HR.o.tb.cell 10;have aw:wr.drew.cell? ⟨TB,11,M⟩=K (Ac Ab (s.d:Int)):=HR.o.tb.cell 11;have aR:¬TB= ↑w+1+1:=by have:=HR.o.lo;omega
  have rb:=HE.o.2.2.1.bM HR.o.gG;obtain⟨q0,q1,q2,q3⟩:=Bi rb;obtain⟨aJ,aM,aP,aQ⟩:=Qj rb;have G:Aa _:=(((rb.set 0 (Ac Ab 0)).set 1 (Ac Ab 0)).set 2 (Ac Ab (s.d:Int))).set 3 (Z GS f.ch f.ch);simp only[kV,lI,lM]at G;refine wp_region_held_drew (S:= λw'=>w'.cell? ⟨TB,10,M⟩=K (Z GS f.ch f.ch)/\w'.cell? ⟨TB,11,M⟩=K (Ac Ab (s.d:Int))) kR ⟨au,aw⟩ (λhHeld=> ?_)
  generalize wr.drew=WD at HR hHeld au aw rb q0 q1 q2 q3 aJ aM aP aQ G⊢;refine AE 0 ?_;refine AE 1 ?_;refine AE 2 ?_;refine AE 3 ?_;refine AE 4 ?_;refine AE 5 ?_;refine AE 6 ?_;refine AE 7 ?_;refine AE 8 ?_;refine rdH 9 ?_;intro KC hKC;go_simp;refine hKC.o _ _ ?_ (λhHeld=> ?_)
  . constructor
    . (repeat rw[World.cell?_setCell_far _ _ _ _ (λe=>aR e.symm)]);exact au
    (repeat rw[World.cell?_setCell_far _ _ _ _ (λe=>aR e.symm)]);exact aw
  clear hKC KC;refine wpAnyH_done kR ?_ _;clear hHeld;clear q0 q1 q2 q3;obtain⟨q0,q1,q2,q3⟩:=Bi G.o;have HT:=HR.o.told (X:=(w:Nat)+1+1) (base:=w) HE.o.2.2.2.1.size aU (Ac Ab 0) (Ac Ab 0) (Ac Ab (s.d:Int)) (Z GS f.ch f.ch);have aF:=Ai HE.o.2.2.2.1 lR HR.o.gG;go_wp2_with fail;refine kY (v:=.agg #[Ac Ab 0,Ac Ab 0,Ac Ab (s.d:Int),Z GS f.ch f.ch]) (by simp[results,Tryz.results14,go_sem,q0,q1,q2,q3]) rfl ?_;rw[ao.o];exact⟨_,_,rfl,HT.1,HT.2.1,by rw[HT.2.2.1];exact aT,HT.2.2.2,((((aF.setCell oS _).setCell oS _).setCell oS _).setCell oS _)⟩
theorem QA{a:List (ML×J×J)}{y:ML×J×J}(h:y∈a):(y.2.1,y.1.back)∈Eu a/\(y.2.2,y.1.ej)∈Eu a:=⟨mN.2 ⟨y,h,sP⟩,mN.2 ⟨y,h,sP⟩⟩
theorem D2.rdW{g b a:J}{F:List (MB×J)}{e:List (ML×J×J)}(h:D2 w base g b a i F e r):Dg w g b a i r:=by
 have j:F.length=r.ej.length:=by rw[<-h.eb,kW]
 have k:e.length=r.gI.length:=by rw[<-h.el,kW]
 refine⟨⟨F,h.eb,?_, λx l=> ?_⟩,Rd.gM (h.gW.own (b,r.gJ) sP),Rd.gM (h.gW.own (a,r.gS) sP),⟨e,h.el,?_, λy m=> ?_⟩⟩
 . rw[<-j];exact Rd.gM h.j9
 . exact Rd.gM (h.gW.own (x.2,x.1.next) (by refine kS.2 (.inl ?_);unfold DP;exact oY (f:= λx=>(x.2,x.1.next)) l))
 . rw[<-k];exact Rd.gM h.j7
 have:=QA m;exact⟨Rd.gM (h.gW.own (y.2.1,y.1.back) (kS.2 (.inr (by simp[this.1])))),Rd.gM (h.gW.own (y.2.2,y.1.ej) (kS.2 (.inr (by simp[this.2]))))⟩
theorem FV.set{s:J}(h:FV w base s F){a:Addr}(b:a.block<base)(x:J):FV (w.setCell a x) base s F:=⟨lL h.row b x,⟨λy e=>lL (h.gW.own y e) b x,h.gW.sep⟩⟩
theorem FV.low{s:J}(h:FV w base s F)(a:b<=base):FV w b s F:=⟨Bb h.row a,⟨λy e=>Bb (h.gW.own y e) a,h.gW.sep⟩⟩
theorem LT(v:VP)(p:MP)(fi:Int)(w:Y)(hs:p.small)(hw:p.wf)(h:Cz w v p)(aG:Dm w v.r p.a7)(aH:GY w v.f p.cC):
 Ae Tryz.prog 5 #[.agg #[v.r,v.k,v.f,v.t],Ac Ab fi] w λe l=>∃y,IU p fi y/\TyO w y e l:=by
 have H:Aa (p.small/\p.wf/\Cz w v p/\Dm w v.r p.a7/\GY w v.f p.cC):=⟨hs,hw,h,aG,aH⟩
 obtain⟨s,z,m,n,D,E,f1,f3,rfl⟩:=h.sl;clear hs hw h aG aH;have E0:=Ef w #[Z s p.a7 z,Z m p.aC n,Z f1 p.cC f3,Z D p.dr E] #[Ac Ab 0,Ac Ab 0,Ac Ab 0,Z M 0 0] 28 32;go_enter Tryz.func5,Tryz.ntmps5;go_upto_region 1 with fail
 refine An (λu=>Aa (Ar u w #[Z s p.a7 z,Z m p.aC n,Z f1 p.cC f3,Z D p.dr E] 28/\Ar u ((w:Nat)+1) #[Ac Ab 0,Ac Ab 0,Ac Ab 0,Z M 0 0] 32/\Ad w w u)) E0 ?_
 rintro U W;clear E0;obtain⟨p0,p1,p2,p3⟩:=Bi W.o.1;go_wp2_with fail;refine(G8 ⟨Z s p.a7 z,Z m p.aC n,Z f1 p.cC f3,Z D p.dr E⟩ p fi U H.o.1 H.o.2.1 (H.o.2.2.1.bM W.o.2.2 lR) (H.o.2.2.2.1.bM W.o.2.2 lR) (H.o.2.2.2.2.bM W.o.2.2 lR)).mono ?_;rintro e T ⟨c,a,v1,L,c1,v2,N,c2,v3,O,c3,Q,P,c4,bb,rfl,aF,aI,b1⟩;have ah:Aa ((bb=true↔GJ p fi)/\(bb=true->∃f r,p.cC[fi.toNat]?=K f/\Bc f.ch r/\r.ch=0/\Dg T (Z v1 L c1) (Z v2 N c2) (Z v3 O c3) (Z Q P c4) r)):=⟨aF, λe=>by obtain⟨f,r,F,ys,h1,h2,h3,_,h5⟩:=aI e;exact⟨f,r,h1,h2,h3,h5.rdW⟩⟩
 have E2:Aa ((Ar T w #[Z s p.a7 z,Z m p.aC n,Z f1 p.cC f3,Z D p.dr E] 28/\Ar T ((w:Nat)+1) #[Ac Ab 0,Ac Ab 0,Ac Ab 0,Z M 0 0] 32/\Ad w w T)):=⟨W.o.1.bM b1,W.o.2.1.bM b1,Ai W.o.2.2 lR b1⟩
 clear aF aI b1 W p0 p1 p2 p3;go_upto_region 2 with fail
 refine An (λu=>Aa ((Ar u w #[Z s p.a7 z,Z m p.aC n,Z f1 p.cC f3,Z D p.dr E] 28/\Ar u ((w:Nat)+1) #[Ac Ab 0,Ac Ab 0,Ac Ab 0,Z M 0 0] 32/\Ad w w u)/\Ar u T #[Ac Ab c,Ac Ab a,Z v1 L c1,Z v2 N c2,Z v3 O c3,Z Q P c4] 45/\Ad T T u)) ⟨⟨E2.o.1.bM (Ag _ _),E2.o.2.1.bM (Ag _ _),Ai E2.o.2.2 lR (Ag _ _)⟩,Ar.new _ _ _,Ag _ _⟩ ?_
 rintro R X;have hY:(w:Nat)+1<T.heap.size:=E2.o.2.1.lt;cases bb
 case false=>have HN:Aa (IU p fi ⟨6,0,0,[]⟩):=.inl ⟨λe=>(by have:=ah.o.1.2 e;cases this),rfl⟩;obtain⟨q0,q1,q2,q3⟩:=Bi X.o.1.2.1;obtain⟨aR,aS,aT,aU⟩:=Qj X.o.1.2.1;go_wp2_with fail;have G:Aa _:=(((X.o.1.2.1.set 0 (Ac Ab (6))).set 1 (Ac Ab (0))).set 2 (Ac Ab (0))).set 3 (Z M 0 0);simp only[kV,lI,lM]at G;clear q0 q1 q2 q3;obtain⟨q0,q1,q2,q3⟩:=Bi G.o;refine kY (v:=.agg #[Ac Ab (6),Ac Ab (0),Ac Ab (0),Z M 0 0]) (by simp[results,Tryz.results5,go_sem,q0,q1,q2,q3]) rfl ?_;have au:=X.o.1.2.2;exact⟨_,HN.o,Z M 0 0,[],rfl,O4 _ _,rfl,sP, λx hx=>(by cases hx),((((au.setCell oS _).setCell oS _).setCell oS _).setCell oS _)⟩
 case true=>
  have am:Aa (GJ p fi):=ah.o.1.1 (by first|rfl|trivial);obtain⟨f,r,hf,a8,aq,aP⟩:=ah.o.2 (by first|rfl|trivial);have aD:Aa (IU p fi (Lv f.ch (Ds p f r.ej (r.gJ.map Int.toNat) Jo))):=.inr ⟨am.o.1,am.o.2.1,f,r,hf,a8,aq,rfl⟩;obtain⟨q,rfl⟩:=kU am.o.2.1;rw[kM]at hf;obtain⟨i,ok,ck,aE,g,aA,m0,m1,m2,m3⟩:=GO H.o.2.2.1.cC hf;simp only[jc,lO]at aE;obtain⟨rfl,rfl⟩:=aE;obtain⟨g1,g3,g4,g6,g7,g9,rfl⟩:=C5 aA;have aZ:(q:Int)<(p.cC:Int):=by have:=(iV.1 hf).1;omega
  have HF:Aa (IQ w ⟨Z s p.a7 z,Z m p.aC n,Z (K ⟨i,ok,M⟩) p.cC f3,Z D p.dr E⟩ p ⟨Z g1 f.d5 g3,Z g4 f.en g6,Z g7 f.ch g9⟩ f/\Bc f.ch r/\r.ch=0/\Dg R (Z v1 L c1) (Z v2 N c2) (Z v3 O c3) (Z Q P c4) r):=⟨RC H.o.1 am.o.1 H.o.2.2.1 hf aA a8 aq,a8,aq,aP.jv X.o.2.2⟩
  simp only[]at m0 m1 m2 m3;have HM:Aa (∀u,Ad w w u->u.cell? ⟨i,ok+q*4,M⟩=K (Z g1 f.d5 g3)/\u.cell? ⟨i,ok+q*4+1,M⟩=K (Ac Ab f.gz)/\u.cell? ⟨i,ok+q*4+2,M⟩=K (Z g4 f.en g6)/\u.cell? ⟨i,ok+q*4+3,M⟩=K (Z g7 f.ch g9)):= λu hu=>⟨AS hu m0,AS hu m1,AS hu m2,AS hu m3⟩
  have E4:Aa ((Ar R w #[Z s p.a7 z,Z m p.aC n,Z (K ⟨i,ok,M⟩) p.cC f3,Z D p.dr E] 28/\Ar R ((w:Nat)+1) #[Ac Ab 0,Ac Ab 0,Ac Ab 0,Z M 0 0] 32/\Ad w w R)/\Ar R T #[Ac Ab c,Ac Ab a,Z v1 L c1,Z v2 N c2,Z v3 O c3,Z Q P c4] 45):=⟨X.o.1,X.o.2.1⟩
  clear hf aA a8 aq aP ah m0 m1 m2 m3 X E2;generalize T.heap.size=j at E4 hY⊢;go_upto_region 4 with fail
  have KS:∀{u:Y},Ar u w #[Z s p.a7 z,Z m p.aC n,Z (K ⟨i,ok,M⟩) p.cC f3,Z D p.dr E] 28->Ar u j #[Ac Ab c,Ac Ab a,Z v1 L c1,Z v2 N c2,Z v3 O c3,Z Q P c4] 45->Ad w w u->u.cell? w=K (Z s p.a7 z)/\u.cell? ⟨w,1,M⟩=K (Z m p.aC n)/\u.cell? ⟨w,2,M⟩=K (Z (K ⟨i,ok,M⟩) p.cC f3)/\u.cell? ⟨w,3,M⟩=K (Z D p.dr E)/\u.cell? ⟨i,ok+q*4,M⟩=K (Z g1 f.d5 g3)/\u.cell? ⟨i,ok+q*4+1,M⟩=K (Ac Ab f.gz)/\u.cell? ⟨i,ok+q*4+2,M⟩=K (Z g4 f.en g6)/\u.cell? ⟨i,ok+q*4+3,M⟩=K (Z g7 f.ch g9)/\u.cell? j=K (Ac Ab c)/\u.cell? ⟨j,1,M⟩=K (Ac Ab a)/\u.cell? ⟨j,2,M⟩=K (Z v1 L c1)/\u.cell? ⟨j,3,M⟩=K (Z v2 N c2)/\u.cell? ⟨j,4,M⟩=K (Z v3 O c3)/\u.cell? ⟨j,5,M⟩=K (Z Q P c4):= λA B C=>by obtain⟨p0,p1,p2,p3⟩:=Bi A;obtain⟨m0,m1,m2,m3⟩:=HM.o _ C;obtain⟨y0,y1,y2,y3,y4,y5⟩:=Dq B;exact⟨p0,p1,p2,p3,m0,m1,m2,m3,y0,y1,y2,y3,y4,y5⟩
  have I:Aa ((Ar R.drew w #[Z s p.a7 z,Z m p.aC n,Z (K ⟨i,ok,M⟩) p.cC f3,Z D p.dr E] 28/\Ar R.drew ((w:Nat)+1) #[Ac Ab 0,Ac Ab 0,Ac Ab 0,Z M 0 0] 32/\Ad w w R.drew)/\Ar R.drew j #[Ac Ab c,Ac Ab a,Z v1 L c1,Z v2 N c2,Z v3 O c3,Z Q P c4] 45/\Dg R.drew (Z v1 L c1) (Z v2 N c2) (Z v3 O c3) (Z Q P c4) r):=⟨⟨E4.o.1.1.bM (Aj _),E4.o.1.2.1.bM (Aj _),Ai E4.o.1.2.2 lR (Aj _)⟩,E4.o.2.bM (Aj _),HF.o.2.2.2.jv (Aj _)⟩
  clear E4;have b0:=KS I.o.1.1 I.o.2.1 I.o.1.2.2;refine wp_region_held_drew (S:= λl=>l.cell? w=K (Z s p.a7 z)/\l.cell? ⟨w,1,M⟩=K (Z m p.aC n)/\l.cell? ⟨w,2,M⟩=K (Z (K ⟨i,ok,M⟩) p.cC f3)/\l.cell? ⟨w,3,M⟩=K (Z D p.dr E)/\l.cell? ⟨i,ok+q*4,M⟩=K (Z g1 f.d5 g3)/\l.cell? ⟨i,ok+q*4+1,M⟩=K (Ac Ab f.gz)/\l.cell? ⟨i,ok+q*4+2,M⟩=K (Z g4 f.en g6)/\l.cell? ⟨i,ok+q*4+3,M⟩=K (Z g7 f.ch g9)/\l.cell? j=K (Ac Ab c)/\l.cell? ⟨j,1,M⟩=K (Ac Ab a)/\l.cell? ⟨j,2,M⟩=K (Z v1 L c1)/\l.cell? ⟨j,3,M⟩=K (Z v2 N c2)/\l.cell? ⟨j,4,M⟩=K (Z v3 O c3)/\l.cell? ⟨j,5,M⟩=K (Z Q P c4)) kR b0 (λao=> ?_)
  clear b0;generalize R.drew=UD at I ao⊢;refine AE 0 ?_;refine AE 1 ?_;refine AE 2 ?_;refine AE 3 ?_;refine AE 4 ?_;refine AE 5 ?_;refine AE 6 ?_;refine AE 7 ?_;refine rdH 8 ?_;intro KC ae;go_simp;refine(Pq UD ⟨Z s p.a7 z,Z m p.aC n,Z (K ⟨i,ok,M⟩) p.cC f3,Z D p.dr E⟩ p ⟨Z g1 f.d5 g3,Z g4 f.en g6,Z g7 f.ch g9⟩ f r c a (Z v1 L c1) (Z v2 N c2) (Z v3 O c3) (Z Q P c4) (HF.o.1.bM I.o.1.2.2) HF.o.2.1 HF.o.2.2.1 I.o.2.2).mono ?_;rintro e V ⟨sv,F,rfl,aw,aJ,a8,aM,b4⟩;have hd:(w:Nat)<=UD.heap.size:=I.o.1.2.2.size;have aW:j<UD.heap.size:=I.o.2.1.lt;have E5:Aa ((Ar V w #[Z s p.a7 z,Z m p.aC n,Z (K ⟨i,ok,M⟩) p.cC f3,Z D p.dr E] 28/\Ar V ((w:Nat)+1) #[Ac Ab 0,Ac Ab 0,Ac Ab 0,Z M 0 0] 32/\Ad w w V)/\Ar V j #[Ac Ab c,Ac Ab a,Z v1 L c1,Z v2 N c2,Z v3 O c3,Z Q P c4] 45/\FV V UD sv F):=⟨⟨I.o.1.1.bM b4,I.o.1.2.1.bM b4,Ai I.o.1.2.2 lR b4⟩,I.o.2.1.bM b4,aw⟩
  obtain⟨sa,sc,aQ⟩:=Az aw.row;subst aQ;have aj:Aa (F.map Prod.fst=(Lv f.ch (Ds p f r.ej (r.gJ.map Int.toNat) Jo)).gU/\F.length<=1024/\∀x∈F,x.1.length<=64):=⟨aJ,a8,aM⟩
  clear aw aJ a8 aM b4;go_simp;refine ae.o _ _ (KS E5.o.1.1 E5.o.2.1 E5.o.1.2.2) (λao=> ?_);clear ae KC;generalize Lv f.ch (Ds p f r.ej (r.gJ.map Int.toNat) Jo)=y at aD aj⊢;obtain⟨yc,ya,yd,ys⟩:=y;have rb:=E5.o.1.2.1;obtain⟨q0,q1,q2,q3⟩:=Bi rb;obtain⟨aR,aS,aT,aU⟩:=Qj rb;have G:Aa _:=(((rb.set 0 (Ac Ab yc)).set 1 (Ac Ab ya)).set 2 (Ac Ab yd)).set 3 (Z sa F sc);simp only[kV,lI,lM]at G;refine rdH 9 ?_;intro KC ae;have aX:¬(w:Nat)= ↑w+1:=oM
  have aY:¬j= ↑w+1:=oM
  have E6:Aa (Ar ((((V.setCell ⟨(w:Nat)+1,0,M⟩ (Ac Ab yc)).setCell ⟨(w:Nat)+1,1,M⟩ (Ac Ab ya)).setCell ⟨(w:Nat)+1,2,M⟩ (Ac Ab yd)).setCell ⟨(w:Nat)+1,3,M⟩ (Z sa F sc)) w #[Z s p.a7 z,Z m p.aC n,Z (K ⟨i,ok,M⟩) p.cC f3,Z D p.dr E] 28/\Ar ((((V.setCell ⟨(w:Nat)+1,0,M⟩ (Ac Ab yc)).setCell ⟨(w:Nat)+1,1,M⟩ (Ac Ab ya)).setCell ⟨(w:Nat)+1,2,M⟩ (Ac Ab yd)).setCell ⟨(w:Nat)+1,3,M⟩ (Z sa F sc)) j #[Ac Ab c,Ac Ab a,Z v1 L c1,Z v2 N c2,Z v3 O c3,Z Q P c4] 45/\Ad w w ((((V.setCell ⟨(w:Nat)+1,0,M⟩ (Ac Ab yc)).setCell ⟨(w:Nat)+1,1,M⟩ (Ac Ab ya)).setCell ⟨(w:Nat)+1,2,M⟩ (Ac Ab yd)).setCell ⟨(w:Nat)+1,3,M⟩ (Z sa F sc))/\FV ((((V.setCell ⟨(w:Nat)+1,0,M⟩ (Ac Ab yc)).setCell ⟨(w:Nat)+1,1,M⟩ (Ac Ab ya)).setCell ⟨(w:Nat)+1,2,M⟩ (Ac Ab yd)).setCell ⟨(w:Nat)+1,3,M⟩ (Z sa F sc)) w (Z sa F sc) F):=by have au:=E5.o.1.2.2;(have o:= λ{a b:Nat} (h:a≠b)=>h);refine⟨(((E5.o.1.1.other oS _).other oS _).other oS _).other oS _,(((E5.o.2.1.other oS _).other oS _).other oS _).other oS _,((((au.setCell oS _).setCell oS _).setCell oS _).setCell oS _),?_⟩;exact((((E5.o.2.2.set oS _).set oS _).set oS _).set oS _).low hd
  go_simp;refine ae.o _ _ (KS E6.o.1 E6.o.2.1 E6.o.2.2.1) (λao=> ?_);clear ae KC;refine wpAnyH_done kR ?_ _;clear ao;clear q0 q1 q2 q3;obtain⟨q0,q1,q2,q3⟩:=Bi G.o;go_wp2_with fail;refine kY (v:=.agg #[Ac Ab yc,Ac Ab ya,Ac Ab yd,Z sa F sc]) (by simp[results,Tryz.results5,go_sem,q0,q1,q2,q3]) rfl ?_;exact⟨_,aD.o,_,F,rfl,E6.o.2.2.2,aj.o.1,aj.o.2.1,aj.o.2.2,E6.o.2.2.1⟩
end Go.Proofs.YtjnglocdoljgkaaGreat
