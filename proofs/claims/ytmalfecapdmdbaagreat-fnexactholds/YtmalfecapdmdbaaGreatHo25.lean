import Derived.Test.YtmalfecapdmdbaaGreatHo21
namespace Go.Proofs.YtmalfecapdmdbaaGreat
open Go.ChangeShapes Go.WideShapes Go.ChangeAt Go.RowKit Go.Proofs.Tryz
set_option linter.unusedVariables false
open Option renaming some → K,none → M
open Go renaming Value → J,World → Y,Calls → Ai
open Go.RowKit renaming Hid → Ae,Below → Ah
open Go.IntKind renaming i64 → Af
open Go.Ending renaming returned → Al
open Go.Value renaming bool → An
open Go.Proofs.Tryz renaming prog → Ap
open Go.World renaming setCell → Aa,ownsRow → Ab
set_option maxHeartbeats 8000000
set_option maxRecDepth 100000
variable {E:Nat->List Nat}{O I:List Nat}{P:Nat->Bool}{C L0:List Int}{f b:Nat}{ag bd:Bool}
theorem GF.at2{w u:Y}{n:Nat}{x:GV}(h:GF w n x E O)(a:Ah w w u)(k:Nat)(b:k<n):∃y:Nat,O[k]?=K y/\y<n/\u ⟨x.go,x.oo+k,M⟩=K ↑y:=⟨O[k]'(by rw[h.ol];exact b),an _,h.ob _ (mN _),Au a (h.ord k _ (an _))⟩
theorem TT.next{L:List Int}{m:Nat}(h:TT E O P I C f L0 L ag bd m)(k:O[m]?=K b)(l:ag=false->bd=false->∀x∈E b,XJ P I C f L0 b x):TT E O P I C f L0 L ag bd (m+1):= λc d=>by
 obtain⟨e,i⟩:=h c d;refine⟨e, λj g n a=> ?_⟩;by_cases e:j=m
 . subst e;rw[k]at a;(cases a);exact l c d
 exact i j g oM a
theorem XP.next{eb:List Nat}{q z:Nat}(h:XP eb P I C f L0 ag bd b q)(i:eb[q]?=K z)(g:ag=false->bd=false->XJ P I C f L0 b z):XP eb P I C f L0 ag bd b (q+1):= λc d j x k a=>by
 by_cases e:j=q
 . subst e;rw[i]at a;(cases a);exact g c d
 exact h c d j x oM a
theorem F6(G:Nat)(a b:Int)(j:J)(u:Y)(f:Ew a)(g:Ew b)(h:u ⟨G,8,M⟩=K j)(p:u.frozen? ⟨G,8,M⟩=false):
 Ai Ap 70 #[.pointer G,a,b] u λe d=>∃c,e=Al (iZ c)/\Ew c/\(d=u/\c=a+b/\a+b<=4294967295\/d=Aa u ⟨G,8,M⟩ true/\c=0/\4294967295<a+b):=by
 obtain⟨k,l⟩:=f;obtain⟨m,n⟩:=g;by_cases i:a+b>4294967295
 . go_enter func70,ntmps70;go_wp2;go_ret;exact⟨0,rfl,⟨oM,oM⟩,.inr ⟨rfl,rfl,i⟩⟩
 go_enter func70,ntmps70;go_wp2;go_ret;exact⟨a+b,rfl,⟨oM,oM⟩,by first|exact .inl ⟨rfl,rfl,oM⟩|(simp<;>omega)⟩
def XI(w u:Y)(G n:Nat)(x:GV)(I:List Nat)(C:List Int)(d c:Nat)(P:Nat->Bool)(E:Nat->List Nat)(f:Nat)(b:Bool)(e:Ending)(g:Y):Prop:=∃a bad L,e=Al (sG a n n)/\Wy w u g G n x bad I C d c P a L/\KF E n P I C f b bad L/\(bad=false->Ye E n P I C f L)
theorem Na(w u:Y)(G n:Nat)(x:GV)(bad:Bool)(I:List Nat)(C:List Int)(E:Nat->List Nat)(O:List Nat)(v s f:Nat)(P:Nat->Bool)(h0:n<=1048576)(hf:f<n)(h:Gr w u G n x bad I C)(hF:GF w n x E O)(hi:Ab u w 4 1 (sG v n s) n (bv P n))(bx:∀b,Ez P n b->jf I b=f->b=f)(bu:jf I f=f)(bg:∀b,b<n->∃j:Nat,O[j]?=K b):
 Ai Ap 73 #[.pointer G,f,sG v n s] u (XI w u G n x I C v s P E f bad):=by
 obtain⟨k0,hk,bT,bV,bY⟩:=lS Bp;have HJ:=Av (d5 bx (d5 bu bg));clear bx bu bg;have cg:(f:Int)<(n:Int):=oM;have H:=Av (d5 h (d5 hF hi));obtain⟨p2,p3,p6,p7,p8,z8⟩:=h.cells;clear h hF hi;go_enter func73,ntmps73;go_wp2_with (at_make;refine l8 _ rfl _ _ 46 rfl u 2 k0 (iZ 0) 1 underlying46 hk bT bV Af Af _ _ n rfl rfl rfl rfl (by rw[bY];omega) oX lR ?_;intro w3 aR br;rw[LG]at aR);have aF:Ah u u w3:=(kS _ _).grown br lR (λk hk=>by cases hk);have d:Ae (Wy w u w3 G n x bad I C v s P u (List.replicate n 0)):=⟨H.1.a7 aF,Aw H.2.2 aF lR,aR,mK, λy B=>by rw[(List.mem_replicate.1 B).2];exact⟨oM,oM⟩,⟨H.1.e8.size,H.1.gK.lt,by obtain⟨_,c,e⟩:=AD H.1.ia;exact(kM.1 e).1,by obtain⟨_,c,e⟩:=AD H.1.cost;exact(kM.1 e).1,by obtain⟨_,c,e⟩:=AD H.2.2;exact(kM.1 e).1⟩, λb g _=>aF.block b g⟩;clear aR br aF p2 p3 p6 p7 p8 z8;go_loopw [9] (λi wr=>∃(k:Nat) (L:List Int),k<=n/\i=iZ k/\Ae (Wy w u wr G n x bad I C v s P u L/\∀j y,j<k->L[j]?=K y->y=-1)) (λi _=>n-(intOf i).toNat)
 case atStart=>exact⟨0,_,oM,rfl,d, λj y A=>absurd A (Nat.not_lt_zero _)⟩
 clear d;obtain⟨k,L,cj,rfl,d⟩:=hrel;by_cases aP:k<n
 . have bQ:(k:Int)<(n:Int):=oM;obtain⟨y,_,_,c0,z0⟩:=d.1.at_ aP;have aq:Ae (Wy w u (Aa wr ⟨u,k,M⟩ (iZ (-1))) G n x bad I C v s P u (L.set k (-1))/\∀j y,j<k+1->(L.set k (-1))[j]?=K y->y=-1):=⟨d.1.set k ⟨oM,oM⟩, λj y A B=>by
    rw[List.getElem?_set]at B;by_cases e:k=j
    . rw[kZ e]at B;split at B
      . cases B;rfl
      cases B
    rw[kP e]at B;exact d.2 j y oM B⟩
   go_wp2_with fail;go_roundw;(case rel=>exact⟨k+1,_,oM,by go_num,aq⟩);exact oI
 have bP:k=n:=oM;subst bP;obtain⟨p2,p3,p6,p7,p8,z8⟩:=d.1.gr.cells;obtain⟨yf,bF,bC,cf⟩:=d.1.gr.iL hf;obtain⟨y0,aw,_,c0,z0⟩:=d.1.at_ hf;have aq:Ae (Wy w u (Aa wr ⟨u,f,M⟩ yf) G k x bad I C v s P u (L.set f yf)/\KF E k P I C f bad bad (L.set f yf)):=⟨d.1.set f ⟨by have:=bC.1;omega,bC.2⟩,by have g:=d.2 f y0 hf aw;subst g;refine KF.start (λy B=> ?_) aw (DL bF) HJ.1 HJ.2.1;obtain⟨j,A⟩:=lH B;exact d.2 j y (by have:=(i6.1 A).1;rw[d.1.ll]at this;exact this) A⟩
 clear bF aw;clear d;go_wp2_with fail;have cu:0<k:=oM;go_loopw [10,11,12,13,14,15,16,17] (λa _ _ _ _ _ _ _ wr=>∃(ag bd:Bool) (L:List Int),a=An ag/\Ae (Wy w u wr G k x bd I C v s P u L/\KF E k P I C f bad bd L/\(ag=false->bd=false->Ye E k P I C f L))) (λa _ _ _ _ _ _ _ wr=>UJ wr u k+Ni a)
 case atStart=>exact⟨true,bad,_,rfl,aq.1,aq.2, λh=>by cases h⟩
 clear aq c0 z0 cf p2 p3 p6 p7 p8 z8;obtain⟨ag,bd,L0,rfl,d⟩:=hrel;obtain⟨p2,p3,p6,p7,p8,z8⟩:=d.1.gr.cells;by_cases aE:ag=true/\bd=false
 case neg=>
  cases ag
  . clear aE;go_wp2_with fail;go_ret;exact⟨_,_,_,rfl,d.1,d.2.1, λh=>d.2.2 sP h⟩
  have bL:bd=true:=by cases bd<;>simp at aE⊢
  subst bL;clear aE;go_wp2_with fail;go_ret;exact⟨_,_,_,rfl,d.1,d.2.1, λh=>by cases h⟩
 obtain⟨rfl,rfl⟩:=aE;have HR:=Av d.1.rest;go_wp2_with fail;go_loopw [10,11,12,13,14,15,16,17] (λa i _ _ _ _ _ _ wr=>∃(m:Nat) (ag bd:Bool) (L:List Int),m<=k/\a=An ag/\i=iZ m/\Ae (Wy w u wr G k x bd I C v s P u L/\FJ L+Ni ag<=FJ L0/\KF E k P I C f bad bd L/\TT E O P I C f L0 L ag bd m)) (λ_ i _ _ _ _ _ _ _=>k-(intOf i).toNat)
 case atStart=>exact⟨0,false,_,_,oM,rfl,rfl,d.1,Nat.le_refl _,d.2.1, λ_ _=>⟨rfl, λj b A=>absurd A (Nat.not_lt_zero _)⟩⟩
 clear d p2 p3 p6 p7 p8 z8;obtain⟨m,ag,bd,L1,hm,rfl,rfl,d⟩:=hrel;by_cases aP:m<k;case neg=>
  go_wp2_with fail;go_roundw;case rel=>exact⟨ag,bd,L1,rfl,d.1,d.2.2.1, λg l b hb=>by obtain⟨e,Q⟩:=d.2.2.2 g l;obtain⟨j,A⟩:=HJ.2.2 b hb;subst e;exact Q j b (by have:=(i6.1 A).1;rw[H.2.1.ol]at this;omega) A⟩
  case measure=>rw[HR,d.1.rest];have:=d.2.1;simp only[Ni]at this⊢;omega
 have bQ:(m:Int)<(k:Int):=oM;obtain⟨p2,p3,p6,p7,p8,z8⟩:=d.1.gr.cells;obtain⟨b,bi,hb,o0⟩:=H.2.1.at2 d.1.gr.e8 m aP;have ce:(b:Int)<(k:Int):=oM;obtain⟨t,b7,ht,i0⟩:=d.1.gr.iM hb;have HI:=Av (d5 (Ls b7) bi);clear b7 bi;have cG:(t:Int)<(k:Int):=oM;have n0:=d.1.j6 hb;obtain⟨y,B,bZ,b0,z0⟩:=d.1.at_ ht;cases hP:P b
 case false=>
  rw[hP]at n0;go_wp2_with fail;go_roundw;case rel=>exact⟨m+1,ag,bd,L1,oM,rfl,by go_num,d.1,d.2.1,d.2.2.1,d.2.2.2.next HI.2 λ_ _ x _ bj=>by rw[hP]at bj;cases bj⟩
  exact oI
 rw[hP]at n0;have bJ:=Av B;by_cases aw:y<0
 . go_wp2_with fail;go_roundw;(case rel=>exact⟨m+1,ag,bd,L1,oM,rfl,by go_num,d.1,d.2.1,d.2.2.1,d.2.2.2.next HI.2 λg l x _ _ _ _ _ h0=>by rw[HI.1,<-(d.2.2.2 g l).1,DL bJ]at h0;omega⟩);case measure=>exact oI
 obtain⟨a,c,aY,hr⟩:=H.2.1.gr b hb;have g0:=Au d.1.gr.e8 aY;have HE:=Av (d5 hr (H.2.1.eb b hb));have bK:=H.2.1.sz b;have HY:Ae (∃y,L1[t]?=K y/\0<=y):=⟨y,B,oM⟩
 clear hr aY;generalize aZ:E b=eb at HE g0 bK;have aW:=Av aZ;have bI:=Av hP;clear aZ hP;go_wp2_with fail;clear p2 p3 p6 p7 p8 z8 b0 z0 n0 o0 i0 g0 B bZ aw;go_loopw [10,15,16,17] (λa j _ _ wr=>∃(q:Nat) (ag bd:Bool) (L:List Int),q<= ↑eb/\a=An ag/\j=iZ q/\Ae (Wy w u wr G k x bd I C v s P u L/\FJ L+Ni ag<=FJ L0/\(∃y,L[t]?=K y/\0<=y)/\KF E k P I C f bad bd L/\TT E O P I C f L0 L ag bd m/\XP eb P I C f L0 ag bd b q)) (λ_ j _ _ _=> ↑eb-(intOf j).toNat)
 case atStart=>exact⟨0,ag,bd,L1,oM,rfl,rfl,d.1,d.2.1,HY,d.2.2.1,d.2.2.2, λ_ _ j x A=>absurd A (Nat.not_lt_zero _)⟩
 clear d HY;obtain⟨q,ag,bd,L2,hq,rfl,rfl,d⟩:=hrel;by_cases aM:q< ↑eb
 case neg=>
  go_wp2_with fail;go_roundw;case rel=>exact⟨m+1,ag,bd,L2,oM,rfl,by go_num,d.1,d.2.1,d.2.2.2.1,d.2.2.2.2.1.next HI.2 λg l x hx=>by rw[aW]at hx;obtain⟨j,A⟩:=lH hx;exact d.2.2.2.2.2 g l j x (by have:=(i6.1 A).1;omega) A⟩
  case measure=>exact oI
 have cw:(q:Int)<(eb:Int):=oM;obtain⟨ga,oa,ea,_,e0⟩:=HE.1.at_ (an aM);have au:eb[q]<k:=HE.2 _ (mN aM);subst ea;have am:=Av (an aM);generalize eb[q]=z at au e0 am;have cH:(z:Int)<(k:Int):=oM;have HT:=Av e0;clear e0;obtain⟨r,hr,aS,_⟩:=d.1.gr.iM au;have cA:(r:Int)<(k:Int):=oM;have HC:Ae (∀(W:Y) (bd:Bool) (L:List Int),Wy w u W G k x bd I C v s P u L->W ⟨G,6,M⟩=K (sG x.gi k x.ci)/\W ⟨ga,oa+q,M⟩=K ↑z/\W ⟨x.gi,z,M⟩=K ↑r):= λW bd L U=>by
  obtain⟨y',g,_,l⟩:=U.gr.iM au;rw[hr]at g;cases g
  exact⟨U.gr.cells.2.2.1,Au U.gr.e8 HT,l⟩
 have F:=Av (Ls hr);clear hr;go_upto_region 21 with fail
 have p:Ae (Wy w u wr.drew G k x bd I C v s P u L2/\FJ L2+Ni ag<=FJ L0/\∃y,L2[t]?=K y/\0<=y):=⟨d.1.a7 (At _),d.2.1,d.2.2.1⟩
 have D:=Av d.2.2.2;refine wp_region_held_drew (S:= λW=>W ⟨G,6,M⟩=K (sG x.gi k x.ci)/\W ⟨ga,oa+q,M⟩=K ↑z/\W ⟨x.gi,z,M⟩=K ↑r) kR (by exact HC.o _ _ _ p.1) (λao=> ?_)
 clear d;generalize wr.drew=UD at p ao⊢;refine AK 0 ?_;refine AK 1 ?_;refine AK 2 ?_;refine AK 3 ?_;refine AK 4 ?_;refine AK 5 ?_;refine AK 6 ?_;refine AK 7 ?_;refine AK 8 ?_;refine AK 9 ?_;refine AK 10 ?_;refine wpAnyH_done kR ?_ _;clear ao;have n1:=p.1.j6 au;obtain⟨_,e1,_⟩:=HC.o _ _ _ p.1;by_cases aj:P z=false\/r=t\/r=f
 case pos=>
  cases ah:P z
  case false=>rw[ah]at n1;go_wp2_with fail;go_roundw;(case rel=>exact⟨q+1,ag,bd,L2,oM,rfl,by go_num,p.1,p.2.1,p.2.2,D.1,D.2.1,D.2.2.next am (λg l _ bo=>by rw[ah]at bo;cases bo)⟩);exact oI
  rw[ah]at n1;by_cases bB:r=t
  . subst bB;go_wp2_with fail;go_roundw;(case rel=>exact⟨q+1,ag,bd,L2,oM,rfl,by go_num,p.1,p.2.1,p.2.2,D.1,D.2.1,D.2.2.next am (λg l _ _ aQ=>absurd (by rw[F,HI.1]) aQ)⟩);exact oI
  have bR:r=f:=by rcases aj with e|e|e;{rw[ah]at e;cases e};{exact absurd e bB};{exact e}
  subst bR;have bS:((r:Int)==(t:Int))=false:=oT;go_wp2_with fail;go_roundw;case rel=>exact⟨q+1,ag,bd,L2,oM,rfl,by go_num,p.1,p.2.1,p.2.2,D.1,D.2.1,D.2.2.next am (λg l _ _ _ aQ=>absurd F.o aQ)⟩
  exact oI
 have ah:P z=true:=by cases e:P z;{exact absurd (.inl e) aj};{rfl}
 rw[ah]at n1;have bS:((r:Int)==(t:Int))=false:=by simp;intro e;exact aj (.inr (.inl oM))
 have cE:((r:Int)==(f:Int))=false:=by simp;intro e;exact aj (.inr (.inr oM))
 have aA:Ae (r≠t/\r≠f/\P z=true):=⟨λe=>aj (.inr (.inl e)), λe=>aj (.inr (.inr e)),ah⟩
 clear aj;go_upto_region 23 with fail
 obtain⟨V,aH,bH⟩:=p.2.2;obtain⟨yr,aT,bG,_⟩:=p.1.gr.iL aS;have aU:Ae (∀(W:Y) (bd:Bool),Wy w u W G k x bd I C v s P u L2->W ⟨u,t,M⟩=K ↑V/\W ⟨G,7,M⟩=K (sG x.gc k x.cc)/\W ⟨x.gc,r,M⟩=K ↑yr):= λW bd U=>by
  obtain⟨y1,g,_,l⟩:=U.gr.iL aS;obtain⟨y2,Q,_,h4,_⟩:=U.at_ ht;rw[aT]at g;rw[aH]at Q;cases g
  cases Q
  exact⟨h4,U.gr.cells.2.2.2.1,l⟩
 have T:=Av (d5 ((⟨bH,by obtain⟨y2,Q,h4,_⟩:=p.1.at_ ht;rw[aH]at Q;cases Q;exact h4.2⟩):Ew V) (d5 bG (d5 aH aT)));have X:=Av (d5 (p.1.a7 (At _)) p.2.1);clear aH bH aT bG n1 e1;refine wp_region_held_drew (S:= λW=>W ⟨u,t,M⟩=K ↑V/\W ⟨G,7,M⟩=K (sG x.gc k x.cc)/\W ⟨x.gc,r,M⟩=K ↑yr) kR (by exact aU.o _ _ X.1) (λao=> ?_)
 clear p;generalize UD.drew=U2 at X ao⊢;refine AK 0 ?_;refine AK 1 ?_;refine AK 2 ?_;refine AK 3 ?_;refine AK 4 ?_;refine AK 5 ?_;refine AK 6 ?_;refine AK 7 ?_;refine AK 8 ?_;refine AK 9 ?_;refine AK 10 ?_;refine AK 11 ?_;refine D3 12 ?_;intro KC bf;go_simp;refine(F6 G V yr _ U2 T.1 T.2.1 X.1.gr.cells.2.2.2.2.1 X.1.gr.cells.2.2.2.2.2).mono ?_;rintro e U3 ⟨cc,rfl,aJ,hU⟩;have aX:=Av D.1;have R:Ae (Ez P k b/\Ez P k z/\z∈E b/\jf I z≠jf I b/\jf I z≠f/\cf L2 (jf I b)=V/\cf C (jf I z)=yr):=⟨⟨hb,bI⟩,⟨au,aA.2.2⟩,by rw[aW];exact i7 am,by rw[F,HI.1];exact aA.1,by rw[F];exact aA.2.1,by rw[HI.1];exact DL T.2.2.1,by rw[F];exact DL T.2.2.2⟩
 have HG:Ae (∃N,Wy w u U3 G k x N I C v s P u L2/\KF E k P I C f bad N L2/\(N=false->bd=false)/\((N=true/\cc=0)\/cc=V+yr/\V+yr<=4294967295)):=by
  rcases hU with⟨rfl,g,l⟩|⟨rfl,g,l⟩
  . exact⟨_,X.1,aX,id,.inr ⟨g,l⟩⟩
  refine⟨_,X.1.im,aX.im R.1 R.2.1 R.2.2.1 R.2.2.2.1 R.2.2.2.2.1 ?_,(λh=>by cases h),.inl ⟨rfl,g⟩⟩;rw[R.2.2.2.2.2.1,R.2.2.2.2.2.2];exact l
 have HL:=Av X.2;clear hU X;refine bf.o _ _ (by obtain⟨bd,U,_⟩:=HG.o;exact aU.o _ _ U) (λao=> ?_);clear bf KC;refine AK 13 ?_;refine wpAnyH_done kR ?_ _;clear ao;obtain⟨N,bp,bq⟩:=HG.o;have aI:=Av bp;have ae:=Av bq;clear HG bp bq;obtain⟨yo,aG,_,o1,z1⟩:=aI.at_ aS;by_cases bt:cc>yo
 . have HN:Ae (Wy w u (Aa U3 ⟨u,r,M⟩ cc) G k x N I C v s P u (L2.set r cc)/\FJ (L2.set r cc)+Ni true<=FJ L0/\(∃y,(L2.set r cc)[t]?=K y/\0<=y)/\KF E k P I C f bad N (L2.set r cc)):=by
    refine⟨aI.set r ⟨by have:=aJ.1;omega,aJ.2⟩,?_,⟨V,?_,T.1.1⟩,?_⟩
    . have g:=TA aG bt aJ.2;have l:=HL.o;show _+1<=_;omega
    . rw[mr aA.1];exact T.2.2.1
    obtain⟨e1,e2,e3,e4,e5,e6,e7⟩:=R.o;rcases ae.2.2 with⟨_,g⟩|⟨g,l⟩
    . rw[g,<-F];exact ae.1.zero e5 (by rw[F];exact aG)
    have:=ae.1.over e1 e2 e3 e4 e5 (by rw[e6];exact T.1.1) (by rw[F];exact aG) (by rw[e6,e7];exact l) (by rw[e6,e7,<-g];exact bt);rw[e6,e7,<-g,F]at this;exact this
   go_wp2_with fail;go_roundw;(case rel=>exact⟨q+1,true,N,_,oM,rfl,by go_num,HN.1,HN.2.1,HN.2.2.1,HN.2.2.2,(λh=>by cases h),(λh=>by cases h)⟩);exact oI
 . go_wp2_with fail;go_roundw;case rel=>exact⟨q+1,ag,N,L2,oM,rfl,by go_num,aI,HL,⟨V,T.2.2.1,T.1.1⟩,ae.1, λg l=>D.2.1 g (ae.2.1 l),XP.next (eb:=eb) (P:=P) (I:=I) (C:=C) (f:=f) (L0:=L0) (ag:=ag) (bd:=N) (b:=b) (q:=q) (λg l=>D.2.2 g (ae.2.1 l)) am λg l _ _ _ _ _=>by
    obtain⟨e1,e2,e3,e4,e5,e6,e7⟩:=R.o;rw[<-(D.2.1 g (ae.2.1 l)).1,e6,e7,F.o,DL aG];rcases ae.2.2 with⟨Q,_⟩|⟨Q,_⟩
    . rw[Q]at l;cases l
    omega⟩
   case measure=>exact oI
end Go.Proofs.YtmalfecapdmdbaaGreat
