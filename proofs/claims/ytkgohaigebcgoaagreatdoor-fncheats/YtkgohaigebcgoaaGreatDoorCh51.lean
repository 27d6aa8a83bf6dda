import Derived.Test.YtkgohaigebcgoaaGreatDoorCh50
import Derived.Test.YtkgohaigebcgoaaGreatDoorCh23
namespace Go.Proofs.YtkgohaigebcgoaaGreatDoor
open Go.ChangeShapes Go.WideShapes Go.ChangeAt Go.RowKit Go.Proofs.Tryz
set_option linter.unusedVariables false
open Go.Value renaming slice → Z,agg → An,tuple → Ap,int → Ag
open Option renaming some → K,none → M
open Go renaming Value → J,World → Y,Calls → Ai,TypeId → Aj
open Go.RowKit renaming Hid → Ae,Below → Ah
open Go.IntKind renaming i64 → Af
open Go.Obj renaming cells → Ak
open Go.Ending renaming returned → Am
open Go.Proofs.Tryz renaming prog → Aq
open Go.World renaming setCell → Aa,ownsRow → Ab,alloc → Ac
open List renaming flatMap → Ad
set_option maxHeartbeats 16000000
set_option maxRecDepth 100000
variable {P d:Array J}{b:Nat}{u:Y}{L:List (J×List Int)}{p:MP}{C D:List Int}
def BoI(p:MP)(w:Y)(e:Ending)(f:Y):Prop:=∃(c g a:Int) (b d:J) (C D:List Int),e=Am (An #[c,g,a,b,d])/\PM p c g a C D/\CO f w [(b,C),(d,D)]/\Ah w w f
theorem LQ(u:Y)(b:Nat):CO u b [(sN,[]),(sN,[])]:=⟨λx a=>by
 rcases lW.1 a with rfl|a
 . exact mX _ _ _ _
 . rw[mK.1 a];exact mX _ _ _ _,by
 refine .cons (λy c=> ?_) (.cons (λy c=>by cases c) .nil);intro g d;cases d⟩
structure qj(w u:Y)(P:Array J):Prop where
 pb:Ay u w P 40
 rb:Ay u ((w:Nat)+1) #[iZ 0,iZ 0,iZ 0,sN,sN] 55
 cq:Ah w w u
theorem qj.av{w u b:Y}(h:qj w u P)(a:Ah u u b):qj w b P:=⟨h.pb.av a,h.rb.av a,Ar h.cq lR a⟩
theorem qj.jM{w u:Y}(h:qj w u P)(a b c x3 d:J):Ah w w (Aa (Aa (Aa (Aa (Aa u ⟨(w:Nat)+1,0,M⟩ a) ⟨(w:Nat)+1,1,M⟩ b) ⟨(w:Nat)+1,2,M⟩ c) ⟨(w:Nat)+1,3,M⟩ x3) ⟨(w:Nat)+1,4,M⟩ d):=((((h.cq.setCell (by show(w:Nat)<= ↑w+1;omega) _).setCell (by show(w:Nat)<= ↑w+1;omega) _).setCell (by show(w:Nat)<= ↑w+1;omega) _).setCell (by show(w:Nat)<= ↑w+1;omega) _).setCell (by show(w:Nat)<= ↑w+1;omega) _
theorem IG.av{w u:Y}{s:J}{fs:List MF}(h:IG w s fs)(d:Ah w w u):IG u s fs:=by obtain⟨ys,a,b,c⟩:=h;exact⟨ys,a,b.av d lR,c⟩
theorem G9.new{b W:Y}{r k t:EJ}{gk ok fc n d e:Nat}(h:Ab W b 2 1 (sG d n n) n (Ad At (List.replicate n (0:Int))))(j:Ab W b 2 1 (sG e n n) n (Ad At (List.replicate n (0:Int))))(g:d≠e)(f:Ah b b W):G9 b (Ac W (Ak #[.iface 90 (An #[]),Z r.a r.n r.c,Z k.a k.n k.c,sO gk ok n fc,Z t.a t.n t.c,sG d n n,sG e n n] 153)) W r k t gk ok fc d n e n n (List.replicate n 0) (List.replicate n 0):=⟨Ay.new _ _ _,nY,AD h (Al _ _) lR,nY,AD j (Al _ _) lR,g,f.size,Ar f lR (Al _ _)⟩
theorem Qg(v:VP)(p:MP)(w:Y)(hs:p.small)(hw:p.wf)(h:Eb w v p)(bg:D8 w v.r p.az)(bj:EZ w v.f p.aC)(bi:IG w v.f p.aC):
 Ai Aq 20 #[An #[v.r,v.k,v.f,v.t],.iface 90 (An #[])] w (BoI p w):=by
 obtain⟨k0,bq,bG,bH,bI⟩:=nE Ct;have H:=Aw (lN hs (lN hw (lN h (lN bg (lN bj bi)))));have bT:=hs.aC;obtain⟨r1,r3,Q,R,t1,t3,f1,f3,rfl⟩:=h.sl;clear hs hw h bg bj bi;generalize bu:p.aC.length=l at H bT⊢;have ai:=Aw bu;clear bu;generalize p.az.length=X at H⊢;generalize p.b8.length=T at H⊢;generalize p.bO.length=nt at H⊢;simp only[]at H;have E0:=Bw w #[Z r1 X r3,Z Q T R,Z f1 l f3,Z t1 nt t3] #[iZ 0,iZ 0,iZ 0,sN,sN] 40 55;go_enter func20,ntmps20;go_upto_region 1 with fail
 refine Av (λu=>Ae (qj w u #[Z r1 X r3,Z Q T R,Z f1 l f3,Z t1 nt t3])) ⟨E0.1,E0.2.1,E0.2.2⟩ ?_;rintro U E1;clear E0;obtain⟨p0,p1,p2,p3⟩:=Cv E1.pb;go_wp2_with fail;refine(Dc ⟨Z r1 X r3,Z Q T R,Z f1 l f3,Z t1 nt t3⟩ p U H.1 H.2.1 (H.2.2.1.av E1.cq lR) (H.2.2.2.1.av E1.cq lR) (H.2.2.2.2.1.av E1.cq lR)).mono ?_;rintro e u1 ⟨⟨n,rfl,hn⟩,bb⟩;have E2:=Aw (E1.av bb);clear bb E1 p0 p1 p2 p3;by_cases aO:n=0;case neg=>rw[show Hl n=.iface 190 n from by unfold Hl;rw[lY aO]];have aq:Ae (PM p 1 0 0 [] []):=.inl ⟨λe=>aO (hn.one e),rfl,rfl,rfl,rfl,rfl⟩;clear hn;obtain⟨a0,F,I,L,N⟩:=Nb E2.rb;obtain⟨aF,aG,aH,aI,aJ⟩:=W8 E2.rb;go_wp2_with fail;have G:Ae _:=((((E2.rb.set 0 (iZ 1)).set 1 (iZ 0)).set 2 (iZ 0)).set 3 sN).set 4 sN;simp only[mO,mi,mh]at G;clear a0 F I L N;obtain⟨a0,F,I,L,N⟩:=Nb G;exact mM (v:=An #[iZ 1,iZ 0,iZ 0,sN,sN]) (by simp[results,results20,go_sem,a0,F,I,L,N]) rfl ⟨1,0,0,sN,sN,[],[],rfl,aq,LQ _ _,E2.jM _ _ _ _ _⟩
 subst aO;rw[show Hl 0=.nilIface from rfl];have aA:=Aw hn;clear hn;obtain⟨p0,p1,p2,p3⟩:=Cv E2.pb;go_wp2_with fail;refine(Nq ⟨Z r1 X r3,Z Q T R,Z f1 l f3,Z t1 nt t3⟩ p u1 H.1 H.2.1 (H.2.2.1.av E2.cq lR) (H.2.2.2.1.av E2.cq lR) (H.2.2.2.2.1.av E2.cq lR)).mono ?_;rintro e A ⟨V,s,rfl,aQ,hO,bb⟩;obtain⟨aV,cV,eV⟩:=AF aQ;subst eV;have ax:Ae (s=Dk p.aC):=by
  rcases hO with⟨_,e⟩|⟨e,_⟩
  . exact e
  exact absurd aA.o e
 have HO:Ae (Rd A 1 (Z aV s cV) s (Ad At s)/\∀z∈s,∃q:Nat,z=(q:Int)/\q<l):=⟨Rd.eP aQ,by rw[ax,<-ai];exact(Ok p.aC p.aC [] (λz hz=>by cases hz)).1⟩
 have cI:s.length<=1048576:=by rw[ax];have:=(Ok p.aC p.aC [] (λz hz=>by cases hz)).2;unfold Dk;simp at this;have:=ai.o;omega
 have O:=Aw (E2.av bb);clear aQ hO bb E2 p0 p1 p2 p3;by_cases aR:s.length=0;case pos=>
  have bV:((s:Int)==0)=true:=by rw[beq_iff_eq];omega
  have aq:Ae (PM p 2 0 0 [] []):=.inr (.inl ⟨aA,by rw[<-ax];exact List.length_eq_zero_iff.1 aR,rfl,rfl,rfl,rfl,rfl⟩);obtain⟨a0,F,I,L,N⟩:=Nb O.rb;obtain⟨aF,aG,aH,aI,aJ⟩:=W8 O.rb;go_wp2_with fail;have G:Ae _:=((((O.rb.set 0 (iZ 2)).set 1 (iZ 0)).set 2 (iZ 0)).set 3 sN).set 4 sN;simp only[mO,mi,mh]at G;clear a0 F I L N;obtain⟨a0,F,I,L,N⟩:=Nb G;exact mM (v:=An #[iZ 2,iZ 0,iZ 0,sN,sN]) (by simp[results,results20,go_sem,a0,F,I,L,N]) rfl ⟨2,0,0,sN,sN,[],[],rfl,aq,LQ _ _,O.jM _ _ _ _ _⟩
 have bV:((s:Int)==0)=false:=by rw[o3];omega
 have bQ:=Aw aR;obtain⟨gk,ok,ef⟩:∃gk ok,f1=K ⟨gk,ok,M⟩:=by
  obtain⟨z,hz⟩:∃z,s[0]?=K z:=⟨_,an oM⟩;obtain⟨q,_,hq⟩:=HO.2 z (lP hz);obtain⟨gk,ok,ck,bf,_⟩:=Kz H.2.2.1.aC (an (show q< ↑p.aC by rw[ai];exact hq))
  simp only[lU]at bf;exact⟨gk,ok,bf.1⟩
 subst ef;clear aR;have aY:Ae (Eb A ⟨Z r1 X r3,Z Q T R,sO gk ok p.aC f3,Z t1 nt t3⟩ p/\IG A (sO gk ok p.aC f3) p.aC):=by rw[ai];exact⟨H.2.2.1.av O.cq lR,H.2.2.2.2.2.av O.cq⟩
 obtain⟨p0,p1,p2,p3⟩:=Cv O.pb;have ae:(w:Nat)+1<A.heap.size:=O.rb.lt;go_upto_region 6 with fail
 go_cut [6] (λsl wx=>∃KB gC gD:Nat,sl=.pointer KB/\Ae (G9 A wx KB ⟨r1,X,r3⟩ ⟨Q,T,R⟩ ⟨t1,nt,t3⟩ gk ok f3 gC l gD l l (List.replicate l 0) (List.replicate l 0)))
 case first=>
  obtain⟨p0,p1,p2,p3⟩:=Cv (O.av (As A)).pb;obtain⟨wA,eA,oA,gA⟩:=run_make_full (P:=Aq) A.drew A 27 2 k0 (iZ 0) 1 underlying27 bq bG bH Af Af l (by rw[bI];omega) oX lR;obtain⟨cJ,ce,aS,aK⟩:=run_make_full (P:=Aq) wA A 27 2 k0 (iZ 0) 1 underlying27 bq bG bH Af Af l (by rw[bI];omega) oX gA.size;rw[XV]at oA aS;have bt:(A.drew:Nat)≠wA.heap.size:=by obtain⟨_,bZ,e⟩:=AZ oA;have:=(mH.1 e).1;omega
  have bA:Ah A A wA:=Ar (As A) lR (BS gA);have B:=Aw (lN (AD oA (BS aK) lR) (lN aS (lN bt (lN bA (Ar bA lR (BS aK))))));clear oA aS gA aK bt bA p0 p1 p2 p3;have aj:Ae (∀W:Y,Ah A A W->W w=K (Z r1 X r3)/\W ⟨w,1,M⟩=K (Z Q T R)/\W ⟨w,2,M⟩=K (sO gk ok l f3)/\W ⟨w,3,M⟩=K (Z t1 nt t3)):= λW hW=>Cv (O.av hW).pb
  refine wp_region_held_drew (S:= λW=>W w=K (Z r1 X r3)/\W ⟨w,1,M⟩=K (Z Q T R)/\W ⟨w,2,M⟩=K (sO gk ok l f3)/\W ⟨w,3,M⟩=K (Z t1 nt t3)) kR (aj.o _ (As _)) (λaa=> ?_)
  refine AU 0 ?_;refine AU 1 ?_;refine AU 2 ?_;refine AU 3 ?_;refine AU 4 ?_;refine AU 6 ?_;refine AU 7 ?_;refine AU 8 ?_;refine wpAnyH_ready (rs:=[5,9]) kR sP ?_;refine AllReadyH.cons rfl (λE m=> ?_) (AllReadyH.cons rfl (λE m=> ?_) AllReadyH.nil);focus
   go_simp;refine m.o _ _ (aj.o _ B.2.2.2.1) (λaa=> ?_);clear m E;refine DO 9 ?_;intro E m;go_simp;refine m.o _ _ (aj.o _ B.2.2.2.2) (λaa=> ?_);clear m E;refine AU 10 ?_;refine DO 11 ?_;intro E m;go_simp;refine m.o _ _ (aj.o _ (Ar B.2.2.2.2 lR (Al _ _))) (λaa=> ?_);clear m E;refine DO 12 ?_;intro E m;go_simp;refine m.o _ _ (aj.o _ (Ar B.2.2.2.2 lR (Al _ _))) (λaa=> ?_);clear m E;refine wpAnyH_done kR ?_ _;clear aa;go_wp2_with fail;go_meet;exact⟨_,_,_,rfl,G9.new (r:=⟨r1,X,r3⟩) (k:=⟨Q,T,R⟩) (t:=⟨t1,nt,t3⟩) (gk:=gk) (ok:=ok) (fc:=f3) B.1 B.2.1 B.2.2.1 B.2.2.2.2⟩
  focus
   go_simp;refine m.o _ _ (aj.o _ B.2.2.2.1) (λaa=> ?_);clear m E;refine DO 5 ?_;intro E m;go_simp;refine m.o _ _ (aj.o _ B.2.2.2.2) (λaa=> ?_);clear m E;refine AU 10 ?_;refine DO 11 ?_;intro E m;go_simp;refine m.o _ _ (aj.o _ (Ar B.2.2.2.2 lR (Al _ _))) (λaa=> ?_);clear m E;refine DO 12 ?_;intro E m;go_simp;refine m.o _ _ (aj.o _ (Ar B.2.2.2.2 lR (Al _ _))) (λaa=> ?_);clear m E;refine wpAnyH_done kR ?_ _;clear aa;go_wp2_with fail;go_meet;exact⟨_,_,_,rfl,G9.new (r:=⟨r1,X,r3⟩) (k:=⟨Q,T,R⟩) (t:=⟨t1,nt,t3⟩) (gk:=gk) (ok:=ok) (fc:=f3) B.2.1 B.1 B.2.2.1.symm B.2.2.2.2⟩
 case rest=>
 obtain⟨KB,gC,gD,rfl,aX⟩:=hcut;clear p0 p1 p2 p3;have aT:Ae (∀c g a C1 D1,Tr p ((s.drop 0).map Int.toNat) (List.replicate l 0) (List.replicate l 0) c g a C1 D1->PM p c g a C1 D1):= λc g a C1 D1 h=>.inr (.inr ⟨aA, λe=>bQ.o (by rw[ax,e];rfl),List.replicate l 0,List.replicate l 0,by rw[nY];exact ai.symm,by rw[nY];exact ai.symm,by rw[<-ax];exact h⟩)
 go_wp2_with fail;go_loopw [35] (λi wr=>∃(j:Nat) (C D:List Int),j<= ↑s/\i=iZ j/\Ae (∀c g a C1 D1,Tr p ((s.drop j).map Int.toNat) C D c g a C1 D1->PM p c g a C1 D1)/\Ae (G9 A wr KB ⟨r1,X,r3⟩ ⟨Q,T,R⟩ ⟨t1,nt,t3⟩ gk ok f3 gC l gD l l C D)) (λi _=> ↑s-(intOf i).toNat)
 case atStart=>exact⟨0,_,_,oM,rfl,aT,aX⟩
 case round=>
 clear aT aX;obtain⟨j,C,D,hj,rfl,aE,EK⟩:=hrel;by_cases bS:j< ↑s
 case neg=>
  have aq:=Aw (aE.o _ _ _ _ _ (by rw[pL oM];exact .nil));have E5:=Aw (O.av EK.cq);have EB:=Aw (lN E5.o EK.o);have bC:=O.cq.size;have bJ:Ae (∀x0 x1 x2 x3 x4,CO (Aa (Aa (Aa (Aa (Aa wr ⟨(w:Nat)+1,0,M⟩ x0) ⟨(w:Nat)+1,1,M⟩ x1) ⟨(w:Nat)+1,2,M⟩ x2) ⟨(w:Nat)+1,3,M⟩ x3) ⟨(w:Nat)+1,4,M⟩ x4) w [(sG gC l l,C),(sG gD l l,D)]):= λx0 x1 x2 x3 x4=>⟨λx hx=>by
   rcases lW.1 hx with rfl|hx
   . have:=Bm (mY (mY (mY (mY (mY EB.2.c (a:=⟨(w:Nat)+1,0,M⟩) ae x0) (a:=⟨(w:Nat)+1,1,M⟩) ae x1) (a:=⟨(w:Nat)+1,2,M⟩) ae x2) (a:=⟨(w:Nat)+1,3,M⟩) ae x3) (a:=⟨(w:Nat)+1,4,M⟩) ae x4) bC;simp only[EB.2.cl];exact this
   . rw[mK.1 hx];have:=Bm (mY (mY (mY (mY (mY EB.2.d (a:=⟨(w:Nat)+1,0,M⟩) ae x0) (a:=⟨(w:Nat)+1,1,M⟩) ae x1) (a:=⟨(w:Nat)+1,2,M⟩) ae x2) (a:=⟨(w:Nat)+1,3,M⟩) ae x3) (a:=⟨(w:Nat)+1,4,M⟩) ae x4) bC;simp only[EB.2.dl];exact this,by
   refine .cons (λy hy=> ?_) (.cons (λy hy=>by cases hy) .nil);rw[mK.1 hy];intro g hg e;(cases hg);(cases e);exact EB.2.ne rfl⟩
  obtain⟨a0,F,I,L,N⟩:=Nb EB.1.rb;obtain⟨aF,aG,aH,aI,aJ⟩:=W8 EB.1.rb;obtain⟨_,_,_,_,_,b5,b6⟩:=EB.2.cells;have G:Ae _:=((((E5.rb.set 0 (iZ 0)).set 1 (iZ 0)).set 2 (iZ 0)).set 3 (sG gC l l)).set 4 (sG gD l l);simp only[mO,mi,mh]at G;have G2:=Aw (Ay.av (b:=(w:Nat)+1) (t:=55) G (As _));go_upto_region 14 with fail
  go_region;all_goals go_wp2_with fail
  all_goals clear a0 F I L N
  all_goals obtain⟨a0,F,I,L,N⟩:=Nb G2
  all_goals exact mM (v:=An #[iZ 0,iZ 0,iZ 0,sG gC l l,sG gD l l]) (by simp[results,results20,go_sem,a0,F,I,L,N]) rfl ⟨0,0,0,_,_,C,D,rfl,aq,(bJ.o _ _ _ _ _).lD (As _),Ar (E5.jM _ _ _ _ _) lR (As _)⟩
 have cH:(j:Int)<(s:Int):=oM;obtain⟨z,hz⟩:∃z,s[j]?=K z:=⟨_,an bS⟩;obtain⟨q,eq,hq⟩:=HO.2 z (lP hz);subst eq;obtain⟨ga,oa,ea,kz⟩:∃ga oa,aV=K ⟨ga,oa,M⟩/\wr ⟨ga,oa+j,M⟩=K ↑q:=by
  rcases(HO.1.av EK.cq lR).2 with⟨e0,_⟩|⟨g1,o1,bY,e1,hc⟩
  . omega
  simp only[lU,mj]at e1;exact⟨g1,o1,e1.1,hc j _ (EW hz)⟩
 subst ea;have aW:Ae ((s.drop j).map Int.toNat=q::(s.drop (j+1)).map Int.toNat):=by obtain⟨l1,e1⟩:=f7.1 hz;show(s.drop j).map Int.toNat=_;rw[oG l1,e1,nh,lV]
 clear hz;have aZ:Ae (Ai Aq 52 #[.pointer KB,q] wr (TkR p q C D A KB ⟨r1,X,r3⟩ ⟨Q,T,R⟩ ⟨t1,nt,t3⟩ gk ok f3 gC l gD l l)):=by have:=Yd p q KB ⟨r1,X,r3⟩ ⟨Q,T,R⟩ ⟨t1,nt,t3⟩ gk ok f3 gC l gD l C D A wr H.1 H.2.1 aA aY.1 aY.2 (by rw[ai];exact hq) (by rw[ai];exact EK);rw[ai]at this;exact this
 go_wp2_with fail;refine aZ.mono ?_;rintro e u5 ⟨rc,ra,rv,rd,C',D',rfl,bx,bB,br⟩;have au:=Aw (lN bx (lN bB br));clear bx bB br kz aZ;by_cases aM:rc=0;case pos=>
  subst aM;have bP:Ae (∀c g a C1 D1,Tr p ((s.drop (j+1)).map Int.toNat) C' D' c g a C1 D1->PM p c g a C1 D1):= λc g a C1 D1 h=>aE.o c g a C1 D1 (by obtain⟨rfl,rfl⟩:=au.2.1 rfl;rw[aW];have e:=au.1.a0;exact .step (e▸au.1) h)
  go_wp2_with fail;go_roundw;case rel=>exact⟨j+1,C',D',oM,by go_num,bP,au.2.2⟩
  exact oI
 have cj:(rc != 0)=true:=by simpa using aM
 have aq:=Aw (aE.o _ _ _ _ _ (by rw[aW];exact .bad au.1 aM));have E5:=Aw (O.av au.2.2.cq);obtain⟨a0,F,I,L,N⟩:=Nb E5.rb;obtain⟨aF,aG,aH,aI,aJ⟩:=W8 E5.rb;go_wp2_with fail;have G:Ae _:=((((E5.rb.set 0 rc).set 1 q).set 2 ra).set 3 sN).set 4 sN;simp only[mO,mi,mh]at G;clear a0 F I L N;obtain⟨a0,F,I,L,N⟩:=Nb G;exact mM (v:=An #[rc,q,ra,sN,sN]) (by simp[results,results20,go_sem,a0,F,I,L,N]) rfl ⟨rc,(q:Int),ra,sN,sN,[],[],rfl,aq,LQ _ _,E5.jM _ _ _ _ _⟩
theorem CO.jI(h:CO u b L){a:Addr}(c:a.block<b)(x:J):CO (u.setCell a x) b L:=⟨λy d=>mY (h.own y d) c x,h.sep⟩
theorem CO.base{b a:Nat}(h:CO u b L)(c:a<=b):CO u a L:=⟨λy d=>Bm (h.own y d) c,h.sep⟩
theorem Np(v:VP)(p:MP)(w:Y)(hs:p.small)(hw:p.wf)(h:Eb w v p)(ae:D8 w v.r p.az)(aj:EZ w v.f p.aC)(ai:IG w v.f p.aC):
 Ai Aq 9 #[An #[v.r,v.k,v.f,v.t]] w (BoI p w):=by
 have H:=Aw (lN hs (lN hw (lN h (lN ae (lN aj ai)))));obtain⟨L,N,z,A,O,P,f1,f3,rfl⟩:=h.sl;clear hs hw h ae aj ai;generalize p.aC.length=B at H⊢;generalize p.az.length=F at H⊢;generalize p.b8.length=E at H⊢;generalize p.bO.length=I at H⊢;simp only[]at H;have l:=Bw w #[Z L F N,Z z E A,Z f1 B f3,Z O I P] #[iZ 0,iZ 0,iZ 0,sN,sN] 40 55;go_enter func9,ntmps9;go_upto_region 1 with fail
 refine Av (λu=>Ae (qj w u #[Z L F N,Z z E A,Z f1 B f3,Z O I P])) ⟨l.1,l.2.1,l.2.2⟩ ?_;rintro U b;clear l;obtain⟨p0,p1,p2,p3⟩:=Cv b.pb;go_wp2_with fail;refine(Qg ⟨Z L F N,Z z E A,Z f1 B f3,Z O I P⟩ p U H.1 H.2.1 (H.2.2.1.av b.cq lR) (H.2.2.2.1.av b.cq lR) (H.2.2.2.2.1.av b.cq lR) (H.2.2.2.2.2.av b.cq)).mono ?_;rintro e u1 ⟨c,g,a,vC,vD,C,D,rfl,aa,m,T⟩;obtain⟨R,V,X⟩:=AF (m.own (vC,C) sP);obtain⟨S,W,eD⟩:=AF (m.own (vD,D) sP);simp only[]at X eD;subst X eD;have Q:=Aw (lN aa m);have d:=Aw (lN (b.av T) (lN b.rb.lt b.cq.size));clear aa m T b p0 p1 p2 p3;obtain⟨a0,n,q,s,y⟩:=Nb d.1.rb;obtain⟨aq,au,ax,aA,aE⟩:=W8 d.1.rb;generalize aF:C.length=lc at*;generalize aG:D.length=ld at*;go_wp2_with fail;have G:Ae _:=((((d.1.rb.set 0 c).set 1 g).set 2 a).set 3 (Z R lc V)).set 4 (Z S ld W);simp only[mO,mi,mh]at G;clear a0 n q s y;obtain⟨a0,n,q,s,y⟩:=Nb G;have j:=d.2.1;exact mM (v:=An #[c,g,a,Z R lc V,Z S ld W]) (by simp[results,results9,go_sem,a0,n,q,s,y]) rfl ⟨c,g,a,_,_,C,D,rfl,Q.1,(((((Q.2.jI (a:=⟨(w:Nat)+1,0,M⟩) j _).jI (a:=⟨(w:Nat)+1,1,M⟩) j _).jI (a:=⟨(w:Nat)+1,2,M⟩) j _).jI (a:=⟨(w:Nat)+1,3,M⟩) j _).jI (a:=⟨(w:Nat)+1,4,M⟩) j _).base d.2.2,d.1.jM _ _ _ _ _⟩
theorem Tr.len{o:List Nat}{b d:List Int}{c g a:Int}(h:Tr p o C D c g a b d):c=0->b.length=C.length:=by
 induction h with
 |nil=>exact λ_=>rfl
 |bad _ hc=>exact λe=>absurd e hc
 |step _ _ f=>exact λe=>(f e).trans (by rw[mF])
theorem PM.len{g a:Int}(h:PM p 0 g a C D):C.length= ↑p.aC/\0<p.aC.length:=by
 rcases h with⟨_,h,_⟩|⟨_,_,h,_⟩|⟨_,h,d,f,c,j,b⟩
 . cases h
 . cases h
 refine⟨(b.len rfl).trans c,?_⟩;cases e:p.aC with
 |nil=>rw[e]at h;exact absurd rfl h
 |cons x xs=>exact Nat.succ_pos _
def tV(p:MP)(w:Y)(e:Ending)(b:Y):Prop:=∃(c g a:Int) (C D:List Int),PM p c g a C D/\Ah w w b/\((c=0/\e=Am (Ap #[(cf C 0),.nilIface]))\/(c≠0/\e=Am (Ap #[iZ 0,.iface 116 (An #[g,a,.iface 114 c])])))
theorem KR(v:VP)(p:MP)(w:Y)(hs:p.small)(hw:p.wf)(h:Eb w v p)(ae:D8 w v.r p.az)(aj:EZ w v.f p.aC)(ai:IG w v.f p.aC):
 Ai Aq 13 #[An #[v.r,v.k,v.f,v.t]] w (tV p w):=by
 have H:=Aw (lN hs (lN hw (lN h (lN ae (lN aj ai)))));obtain⟨P,Q,L,N,R,S,f1,f3,rfl⟩:=h.sl;clear hs hw h ae aj ai;have n:=Aw (Al w (Ak #[Z P p.az Q,Z L p.b8 N,Z f1 p.aC f3,Z R p.bO S] 40));go_enter func13,ntmps13;go_wp2_with fail;refine(Np ⟨Z P p.az Q,Z L p.b8 N,Z f1 p.aC f3,Z R p.bO S⟩ p _ H.1 H.2.1 (H.2.2.1.av n lR) (H.2.2.2.1.av n lR) (H.2.2.2.2.1.av n lR) (H.2.2.2.2.2.av n)).mono ?_;rintro e l ⟨c,g,a,vC,vD,C,D,rfl,aa,u,U⟩;obtain⟨d,j,W⟩:=AF (u.own (vC,C) sP);obtain⟨q,s,X⟩:=AF (u.own (vD,D) sP);simp only[]at W X;subst W X;have z:=Aw aa;have HO:=Aw (u.own (Z d C j,C) sP);have T:=Aw (Ar n lR U);clear aa u U;go_upto_region 2 with fail
 have y:=Al l (Ak #[c,g,a,Z d C j,Z q D s] 55);have b:Ae (Ay (Ac l (Ak #[c,g,a,Z d C j,Z q D s] 55)) l #[c,g,a,Z d C j,Z q D s] 55/\Ab (Ac l (Ak #[c,g,a,Z d C j,Z q D s] 55)) ((Ac w (Ak #[Z P p.az Q,Z L p.b8 N,Z f1 p.aC f3,Z R p.bO S] 40)).heap.size) 2 1 (Z d C j) C (Ad At C)/\Ah w w (Ac l (Ak #[c,g,a,Z d C j,Z q D s] 55))):=⟨Ay.new _ _ _,AD HO y lR,Ar T lR y⟩
 clear HO T y n;generalize Ac l (Ak #[c,g,a,Z d C j,Z q D s] 55)=B at b⊢;generalize l.heap.size=BB at b⊢;have x0:=b.1.cell 0;simp only[lQ,lO]at x0;by_cases G:c=0;case neg=>
  have aF:(c != 0)=true:=by simpa using G
  have x1:=b.1.cell 1;have x2:=b.1.cell 2;simp only[lQ,lO,lS]at x1 x2;have A:Ae (∀e m,Ah w w m->e=Am (Ap #[iZ 0,.iface 116 (An #[g,a,.iface 114 c])])->tV p w e m):= λe m F I=>⟨c,g,a,C,D,z,F,.inr ⟨G,I⟩⟩
  go_upto_region 3 with fail
  go_region;have BD:Ae (Ah w w B.drew):=Ar b.2.2 lR (As B);go_wp2_with fail;go_ret2;exact A.o _ _ BD rfl
 subst G;obtain⟨hl,hp⟩:=z.len;have hC:0<C.length:=oM;have aE:(0:Int)<(C:Int):=oM;clear hl hp;obtain⟨E,O,aq,z0⟩:∃E O,d=K ⟨E,O,M⟩/\B ⟨E,O,M⟩=K ↑(cf C 0):=by
  have ax:=Rd.eP b.2.1;rcases ax.2 with⟨e0,_⟩|⟨g1,o1,aA,V,au⟩
  . omega
  simp only[lU,mj]at V;refine⟨g1,o1,V.1,(mL o1)▸au 0 _ ?_⟩;rw[Kt (an hC)];exact EW (an hC)
 subst aq;have x3:=b.1.cell 3;simp only[lQ,lO,lS]at x3;have A:Ae (∀e m,Ah w w m->e=Am (Ap #[(cf C 0),.nilIface])->tV p w e m):= λe m F I=>⟨0,g,a,C,D,z,F,.inl ⟨rfl,I⟩⟩
 go_wp2_with fail;go_ret2;exact A.o _ _ b.2.2 rfl
def tX(p:MP)(w:Y)(e:Ending)(s:Y):Prop:=∃(c g a:Int) (C D:List Int),PM p c g a C D/\Ah w w s/\((c=0/\∃(a0 b d f:Option Addr) (m n q r h j k l:Nat),e=Am (An #[Ag Af 0,Ag Af 0,Ag Af 0,Ag Af 0,Z a0 m h,Z b n j,Z d q k,Z f r l,(cf C 0)]))\/(c≠0/\e=Am (An #[Ag Af 2,c,g,a,Z M 0 0,Z M 0 0,Z M 0 0,Z M 0 0,Ag Af 0])))
structure so(w u:Y)(X:Nat)(v:VP):Prop where
 pb:Ay u X #[v.r,v.k,v.f,v.t] 40
 rb:Ay u (X+1) #[Ag Af 0,Ag Af 0,Ag Af 0,Ag Af 0,Z M 0 0,Z M 0 0,Z M 0 0,Z M 0 0,Ag Af 0] 42
 cq:Ah X w u
theorem so.av{w u b:Y}{X:Nat}{v:VP}(h:so w u X v)(a:Ah u u b):so w b X v:=⟨h.pb.av a,h.rb.av a,h.cq.trans (a.mono (oq h.pb.lt))⟩
theorem Zt(t:Aj)(v:J)(w:Y):(binOp .neq 67 (.iface t v) .nilIface).run Aq w=.ok true w:=kR
theorem Xx(w:Y):(binOp .neq 67 .nilIface .nilIface).run Aq w=.ok false w:=kR
theorem Uv(v:VP)(p:MP)(w:Y)(hs:p.small)(hw:p.wf)(h:Eb w v p)(ae:D8 w v.r p.az)(aj:EZ w v.f p.aC)(ai:IG w v.f p.aC)(hg:Dz w):
 Ai Aq 7 #[An #[v.r,v.k,v.f,v.t]] w (tX p w):=by
 have H:=Aw (lN hs (lN hw (lN h (lN ae (lN aj (lN ai hg))))));obtain⟨P,Q,N,O,R,S,f1,f3,rfl⟩:=h.sl;clear hs hw h ae aj ai hg;have E0:Ae (so w (Ac (Ac w (Ak #[Z P p.az Q,Z N p.b8 O,Z f1 p.aC f3,Z R p.bO S] 40)) (Ak #[Ag Af 0,Ag Af 0,Ag Af 0,Ag Af 0,Z M 0 0,Z M 0 0,Z M 0 0,Z M 0 0,Ag Af 0] 42)) w ⟨Z P p.az Q,Z N p.b8 O,Z f1 p.aC f3,Z R p.bO S⟩):=by have I:=Al w (Ak #[Z P p.az Q,Z N p.b8 O,Z f1 p.aC f3,Z R p.bO S] 40);have E:=Al (Ac w (Ak #[Z P p.az Q,Z N p.b8 O,Z f1 p.aC f3,Z R p.bO S] 40)) (Ak #[Ag Af 0,Ag Af 0,Ag Af 0,Ag Af 0,Z M 0 0,Z M 0 0,Z M 0 0,Z M 0 0,Ag Af 0] 42);exact⟨(Ay.new _ _ _).av E,by have:=Ay.new (Ac w (Ak #[Z P p.az Q,Z N p.b8 O,Z f1 p.aC f3,Z R p.bO S] 40)) #[Ag Af 0,Ag Af 0,Ag Af 0,Ag Af 0,Z M 0 0,Z M 0 0,Z M 0 0,Z M 0 0,Ag Af 0] 42;rw[oQ]at this;exact this,Ar I lR E⟩
 have ax:=Zt;have au:=Xx;go_enter func7,ntmps7;go_upto_region 1 with fail
 generalize hX:w.heap.size=X at E0⊢;have F:=Aw hX;clear hX;refine Av (λu=>Ae (so w u X ⟨Z P p.az Q,Z N p.b8 O,Z f1 p.aC f3,Z R p.bO S⟩)) E0 ?_;rintro U B;clear E0;have q0:=B.pb.cell 0;have q1:=B.pb.cell 1;have q2:=B.pb.cell 2;have q3:=B.pb.cell 3;simp only[lQ,lO,lS]at q0 q1 q2 q3;go_wp2_with fail;refine(KR ⟨Z P p.az Q,Z N p.b8 O,Z f1 p.aC f3,Z R p.bO S⟩ p U H.1 H.2.1 (H.2.2.1.av B.cq (Nat.le_of_eq F)) (H.2.2.2.1.av B.cq (Nat.le_of_eq F)) (H.2.2.2.2.1.av B.cq (Nat.le_of_eq F)) (H.2.2.2.2.2.1.av (by rw[F];exact B.cq))).mono ?_;rintro e u1 ⟨c,g,a,C,D,aa,L,aq⟩;have d:=Aw (B.av L);have HB:=Aw aa;clear L aa B q0 q1 q2 q3;rcases aq with⟨rfl,rfl⟩|⟨hc,rfl⟩
 focus
  have HR:Ae (∀e w' (a0 V W a3:Option Addr) (n0 n1 n2 n3 b0 I E b3:Nat),Ah w w w'->e=Am (An #[Ag Af 0,Ag Af 0,Ag Af 0,Ag Af 0,Z a0 n0 b0,Z V n1 I,Z W n2 E,Z a3 n3 b3,(cf C 0)])->tX p w e w'):= λe w' a0 V W a3 n0 n1 n2 n3 b0 I E b3 hb he=>⟨0,g,a,C,D,HB,hb,.inl ⟨rfl,a0,V,W,a3,n0,n1,n2,n3,b0,I,E,b3,he⟩⟩
  have q0:=d.pb.cell 0;have q1:=d.pb.cell 1;have q2:=d.pb.cell 2;have q3:=d.pb.cell 3;simp only[lQ,lO,lS]at q0 q1 q2 q3;go_wp2_with fail;refine(KX ⟨Z P p.az Q,Z N p.b8 O,Z f1 p.aC f3,Z R p.bO S⟩ p u1 H.1 (H.2.2.1.av d.cq (Nat.le_of_eq F)) (H.2.2.2.1.av d.cq (Nat.le_of_eq F))).mono ?_;rintro e u2 ⟨⟨a0,V,W,a3,n0,n1,n2,n3,b0,I,E,b3,rfl⟩,L⟩;have T:=Aw (d.av L);clear L d q0 q1 q2 q3;have b:=T.rb;have j:=b.cell 0;have l:=b.cell 1;have m:=b.cell 2;have n:=b.cell 3;have q:=b.cell 4;have s:=b.cell 5;have y:=b.cell 6;have z:=b.cell 7;have A:=b.cell 8;simp only[lQ,lO,lS]at j l m n q s y z A;have g0:=b.frozen 0;have g1:=b.frozen 1;have g2:=b.frozen 2;have g3:=b.frozen 3;have g4:=b.frozen 4;have g5:=b.frozen 5;have g6:=b.frozen 6;have g7:=b.frozen 7;have g8:=b.frozen 8;clear b;go_wp2_with fail;have GB:=Aw (((((((((T.cq.setCell (p:=⟨X+1,0,M⟩) (Nat.le_succ X) (Ag Af 0)).setCell (p:=⟨X+1,1,M⟩) (Nat.le_succ X) (Ag Af 0)).setCell (p:=⟨X+1,2,M⟩) (Nat.le_succ X) (Ag Af 0)).setCell (p:=⟨X+1,3,M⟩) (Nat.le_succ X) (Ag Af 0)).setCell (p:=⟨X+1,4,M⟩) (Nat.le_succ X) ((Z a0 n0 b0))).setCell (p:=⟨X+1,5,M⟩) (Nat.le_succ X) ((Z V n1 I))).setCell (p:=⟨X+1,6,M⟩) (Nat.le_succ X) ((Z W n2 E))).setCell (p:=⟨X+1,7,M⟩) (Nat.le_succ X) ((Z a3 n3 b3))).setCell (p:=⟨X+1,8,M⟩) (Nat.le_succ X) (cf C 0));have G:Ae (Ay _ (X+1) _ 42):=(((((((((T.rb.set 0 (Ag Af 0)).set 1 (Ag Af 0)).set 2 (Ag Af 0)).set 3 (Ag Af 0)).set 4 ((Z a0 n0 b0))).set 5 ((Z V n1 I))).set 6 ((Z W n2 E))).set 7 ((Z a3 n3 b3))).set 8 (cf C 0));simp only[mO,mi,mh]at G;clear j l m n q s y z A g0 g1 g2 g3 g4 g5 g6 g7 g8;have j:=G.cell 0
  have l:=G.cell 1;have m:=G.cell 2;have n:=G.cell 3;have q:=G.cell 4;have s:=G.cell 5;have y:=G.cell 6;have z:=G.cell 7;have A:=G.cell 8;simp only[lQ,lO,lS]at j l m n q s y z A;exact mM (v:=An #[Ag Af 0,Ag Af 0,Ag Af 0,Ag Af 0,(Z a0 n0 b0),(Z V n1 I),(Z W n2 E),(Z a3 n3 b3),(cf C 0)]) (by simp[results,results7,go_sem,j,l,m,n,q,s,y,z,A]) rfl (HR.o _ _ _ _ _ _ _ _ _ _ _ _ _ _ (by rw[F];exact GB) rfl)
 have HR:Ae (∀e w',Ah w w w'->e=Am (An #[Ag Af 2,c,g,a,Z M 0 0,Z M 0 0,Z M 0 0,Z M 0 0,Ag Af 0])->tX p w e w'):= λe w' hb he=>⟨c,g,a,C,D,HB,hb,.inr ⟨hc,he⟩⟩
 go_wp2_with fail;refine(Rj g a c u1 (H.2.2.2.2.2.2.av (by rw[F];exact d.cq))).mono ?_;rintro e u2 ⟨rfl,L⟩;have T:=Aw (d.av L);clear L d;have b:=T.rb;have j:=b.cell 0;have l:=b.cell 1;have m:=b.cell 2;have n:=b.cell 3;have q:=b.cell 4;have s:=b.cell 5;have y:=b.cell 6;have z:=b.cell 7;have A:=b.cell 8;simp only[lQ,lO,lS]at j l m n q s y z A;have g0:=b.frozen 0;have g1:=b.frozen 1;have g2:=b.frozen 2;have g3:=b.frozen 3;have g4:=b.frozen 4;have g5:=b.frozen 5;have g6:=b.frozen 6;have g7:=b.frozen 7;have g8:=b.frozen 8;clear b;go_wp2_with fail;have GB:=Aw (((((((((T.cq.setCell (p:=⟨X+1,0,M⟩) (Nat.le_succ X) (Ag Af 2)).setCell (p:=⟨X+1,1,M⟩) (Nat.le_succ X) c).setCell (p:=⟨X+1,2,M⟩) (Nat.le_succ X) g).setCell (p:=⟨X+1,3,M⟩) (Nat.le_succ X) a).setCell (p:=⟨X+1,4,M⟩) (Nat.le_succ X) (Z M 0 0)).setCell (p:=⟨X+1,5,M⟩) (Nat.le_succ X) (Z M 0 0)).setCell (p:=⟨X+1,6,M⟩) (Nat.le_succ X) (Z M 0 0)).setCell (p:=⟨X+1,7,M⟩) (Nat.le_succ X) (Z M 0 0)).setCell (p:=⟨X+1,8,M⟩) (Nat.le_succ X) (Ag Af 0));have G:Ae (Ay _ (X+1) _ 42):=(((((((((T.rb.set 0 (Ag Af 2)).set 1 c).set 2 g).set 3 a).set 4 (Z M 0 0)).set 5 (Z M 0 0)).set 6 (Z M 0 0)).set 7 (Z M 0 0)).set 8 (Ag Af 0));simp only[mO,mi,mh]at G;clear j l m n q s y z A g0 g1 g2 g3 g4 g5 g6 g7 g8;have j:=G.cell 0;have l:=G.cell 1;have m:=G.cell 2;have n:=G.cell 3;have q:=G.cell 4;have s:=G.cell 5;have y:=G.cell 6;have z:=G.cell 7;have A:=G.cell 8;simp only[lQ,lO,lS]at j l m n q s y z A
 exact mM (v:=An #[Ag Af 2,c,g,a,Z M 0 0,Z M 0 0,Z M 0 0,Z M 0 0,Ag Af 0]) (by simp[results,results7,go_sem,j,l,m,n,q,s,y,z,A]) rfl (HR.o _ _ (by rw[F];exact GB) rfl)
theorem JZ{w:Y}{b k n:Nat}{t:Aj}{cs:List J}(h:Ay w b cs.toArray t)(d: ↑cs=n*k)(c:Nat):Rd w k (Z b n c) n cs:=⟨d,.inr ⟨b,0,c,rfl, λj u a=>by rw[m9,h.cell j];simpa using a⟩⟩
theorem Rg{w:Y}{k:Nat}(a:Option Addr)(c:Nat):Rd w k (Z a 0 c) 0 []:=⟨sP,.inl ⟨rfl,a,c,rfl⟩⟩
theorem WU:∀ls:List Int,(Ad At ls).length= ↑ls
 |[]=>rfl
 |a::r=>by rw[mv,mB,WU r,nQ];show 1+r.length=_;omega
def JU(ls:List Int)(cs:List MI)(k:Int)(ts:List MT):MP:=⟨[[],[],[]],[⟨3,k⟩],[⟨[],0,ls,cs⟩],ts⟩
structure Ii(w:Y)(bR bK bF bL:Nat)(z0 z1 z2:Option Addr)(d0 d1 d2:Nat)(ls:List Int)(cs:List MI)(k:Int)(ac:Option Addr)(cc:Nat):Prop where
 r:Ay w bR #[Z z0 0 d0,Z z1 0 d1,Z z2 0 d2] 27
 k:Ay w bK #[Ag Af 3,Ag .u32 k] 31
 f:Ay w bF #[Z M 0 0,Ag Af 0,Z bL ls ls,Z ac cs cc] 34
 l:Ay w bL (Ad At ls).toArray 2
 c:Rd w 4 (Z ac cs cc) cs (Ad MI.cells cs)
 cc: ↑cs<=cc
theorem Ii.av{w b:Y}{bR bK bF bL:Nat}{z0 z1 z2:Option Addr}{d0 d1 d2:Nat}{ls:List Int}{cs:List MI}{k:Int}{ac:Option Addr}{cc:Nat}(h:Ii w bR bK bF bL z0 z1 z2 d0 d1 d2 ls cs k ac cc)(a:Ah w w b):Ii b bR bK bF bL z0 z1 z2 d0 d1 d2 ls cs k ac cc:=⟨h.r.av a,h.k.av a,h.f.av a,h.l.av a,h.c.av a lR,h.cc⟩
section
variable {w:Y} {bR bK bF bL:Nat} {z0 z1 z2:Option Addr} {d0 d1 d2:Nat} {ls:List Int} {cs:List MI} {k:Int} {ac:Option Addr} {cc:Nat} {vt:J} {ts:List MT}
theorem Ii.rdF(h:Ii w bR bK bF bL z0 z1 z2 d0 d1 d2 ls cs k ac cc):FD w ⟨Z M 0 0,Z bL ls ls,Z ac cs cc⟩ ⟨[],0,ls,cs⟩:=⟨Rg _ _,JZ h.l (by rw[nX];exact WU ls) _,h.c⟩
theorem Ii.jL(h:Ii w bR bK bF bL z0 z1 z2 d0 d1 d2 ls cs k ac cc)(d:Rd w 4 vt ts (Ad MT.cells ts)):Eb w ⟨Z bR 3 3,Z bK 1 1,Z bF 1 1,vt⟩ (JU ls cs k ts)/\D8 w (Z bR 3 3) (JU ls cs k ts).az/\EZ w (Z bF 1 1) (JU ls cs k ts).aC/\IG w (Z bF 1 1) (JU ls cs k ts).aC:=by
 have c:D8 w (Z bR 3 3) (JU ls cs k ts).az:=⟨[([],Z z0 0 d0),([],Z z1 0 d1),([],Z z2 0 d2)],rfl,JZ (cs:=[Z z0 0 d0,Z z1 0 d1,Z z2 0 d2]) h.r rfl 3, λx a=>by
  simp only[lW,lZ,mS]at a;rcases a with rfl|rfl|rfl
  . exact⟨Rg _ _,_,_,rfl,oC _⟩
  . exact⟨Rg _ _,_,_,rfl,oC _⟩
  exact⟨Rg _ _,_,_,rfl,oC _⟩⟩
 have b:=JZ (cs:=[Z M 0 0,Ag Af 0,Z bL ls ls,Z ac cs cc]) (n:=1) (k:=4) h.f rfl 1;refine⟨⟨c.rd,JZ (cs:=[Ag Af 3,Ag .u32 k]) (n:=1) (k:=2) h.k rfl 1,?_,d⟩,c,?_,?_⟩
 . exact⟨[(⟨[],0,ls,cs⟩,⟨Z M 0 0,Z bL ls ls,Z ac cs cc⟩)],rfl,b, λx a=>by rw[mK.1 a];exact h.rdF⟩
 . exact⟨[(⟨[],0,ls,cs⟩,⟨Z M 0 0,Z bL ls ls,Z ac cs cc⟩)],rfl,b, λx a=>by rw[mK.1 a];exact⟨h.rdF,.inl rfl,.inr ⟨_,_,_,rfl⟩⟩⟩
 . exact⟨[(⟨[],0,ls,cs⟩,⟨Z M 0 0,Z bL ls ls,Z ac cs cc⟩)],rfl,b, λx a=>by rw[mK.1 a];exact⟨_,_,rfl,h.cc⟩⟩
end
theorem w6{z:Int}(a:0<=z)(b:z<=100):Fa z:=DB oM oM
def tv(n:Nat):List MB:=[⟨0,1,[1]⟩,⟨2,2,[2,3]⟩,⟨3,(n:Int)+3,[1]⟩,⟨(n:Int)+4,(n:Int)+4,[]⟩]
def E4:Nat->List Nat|0=>[1]|1=>[2,3]|2=>[1]|_=>[]
theorem tQ(n:Nat):nx (tv n)=E4:=by
 funext b
 match b with
 |0=>rfl
 |1=>rfl
 |2=>rfl
 |3=>rfl
 |k+4=>rfl
theorem DZ{E:Nat->List Nat}{d:Nat}{R:List Nat}(e:0∈R)(c:∀x∈R,∀y∈E x,y≠d->y∈R)(f:∀x∈R,DA E (· ≠d) 0 x)(b:Nat):DA E (· ≠d) 0 b↔b∈R:=by
 constructor
 . intro h;induction h with
   |here _=>exact e
   |step _ a ok g=>exact c _ g _ a ok
 exact f b
def R4:Nat->List Nat|0=>[]|1=>[0]|2=>[0,1,3]|3=>[0,1,2]|_=>[0,1,2,3]
def D4(d b:Nat):Bool:= !(R4 d).contains b
theorem ut(d b:Nat):DA E4 (· ≠d) 0 b↔b∈R4 d:=by
 match d with
 |0=>exact⟨λh=>absurd rfl h.kj, λh=>by cases h⟩
 | 1 =>
   refine DZ dC (λx a y f g=> ?_) (λx a=> ?_) b
   . simp only[R4,lW,lZ,mS]at a⊢;subst a;simp only[E4,lW,lZ,mS]at f;exact absurd f g
   simp only[R4,lW,lZ,mS]at a;subst a;exact .here dC
 | 2 =>
   refine DZ dC (λx a y f g=> ?_) (λx a=> ?_) b
   . simp only[R4,lW,lZ,mS]at a⊢;rcases a with rfl|rfl|rfl<;>simp only[E4,lW,lZ,mS]at f<;>omega
   have e:DA E4 (· ≠2) 0 0:=.here dC;have c:DA E4 (· ≠2) 0 1:=.step e dC dC;simp only[R4,lW,lZ,mS]at a;rcases a with rfl|rfl|rfl
   . exact e
   . exact c
   exact .step c dC dC
 | 3 =>
   refine DZ dC (λx a y f g=> ?_) (λx a=> ?_) b
   . simp only[R4,lW,lZ,mS]at a⊢;rcases a with rfl|rfl|rfl<;>simp only[E4,lW,lZ,mS]at f<;>omega
   have e:DA E4 (· ≠3) 0 0:=.here dC;have c:DA E4 (· ≠3) 0 1:=.step e dC dC;simp only[R4,lW,lZ,mS]at a;rcases a with rfl|rfl|rfl
   . exact e
   . exact c
   exact .step c dC dC
 | d +4=>
   refine DZ (by show 0∈[0,1,2,3];decide) (λx a y f g=> ?_) (λx a=> ?_) b
   . simp only[R4,lW,lZ,mS]at a⊢;rcases a with rfl|rfl|rfl|rfl<;>simp only[E4,lW,lZ,mS]at f<;>omega
   have e:DA E4 (· ≠d+4) 0 0:=.here oM;have c:DA E4 (· ≠d+4) 0 1:=.step e dC oM;simp only[R4,lW,lZ,mS]at a;rcases a with rfl|rfl|rfl|rfl
   . exact e
   . exact c
   . exact .step c dC oM
   exact .step c dC oM
theorem WG(d b:Nat):D4 d b=true↔Ea E4 d b:=by unfold Ea D4;rw[ut];simp
theorem vs4:Vs E4 [] [] [0] [3,2,1,0] [2,3,1,0]:=.new dC (.new dC (.new dC (.old dC (.nil _ _)) (.new dC (.nil _ _) (.nil _ _))) (.nil _ _)) (.nil _ _)
def I4:Nat->Int|0=> -1|1=>0|2=>1|3=>1|_=>0
def Tt(h y:Nat):Bool:=decide (y=h)||(decide (h=1)&&decide (y=2))
theorem Wq(h:Nat):AP E4 D4 4 h=if h=1 then[2]else[]:=by
 match h with
 |0=>decide
 |1=>decide
 |2=>decide
 |3=>decide
 | h+4=>
   rw[lY oM,List.eq_nil_iff_forall_not_mem];intro p c;obtain⟨b,a,_⟩:=(Db _ _ _ _ _).1 c;match p,b with
   |0,_=>simp[E4]at a
   |1,_=>simp[E4]at a
   |2,_=>simp[E4]at a
   |3,_=>simp[E4]at a
theorem in4(h y:Nat):Tt h y=true↔AW E4 D4 4 h y:=by
 have two:∀y,DA (Bo E4 4) (· ≠1) 2 y->y=2:=by
  intro y b;induction b with
  |here _=>rfl
  | step _ d ok f=>
    subst f;obtain⟨p,q⟩:=(CS _ _ _ _).1 d;rename_i c _;match c,p with
    |0,_=>simp[E4]at q
    |1,_=>exact absurd rfl ok
    |2,_=>simp[E4]at q
    |3,_=>simp[E4]at q
 unfold Tt AW;rw[Wq];simp only[Bool.or_eq_true,mo,mu];constructor
 . rintro(e|⟨rfl,rfl⟩)
   . exact .inl e
   exact .inr ⟨2,sP,.here dC⟩
 rintro(e|⟨t,a,b⟩)
 . exact .inl e
 by_cases e:h=1
 . subst e;rw[mE rfl,mK]at a;subst a;exact .inr ⟨rfl,two y b⟩
 rw[lY e]at a;cases a
theorem tj:∀b,b<4->(b=0/\I4 b=-1)\/b≠0/\∃c:Nat,c<4/\I4 b=(c:Int)/\Fm E4 b c:=by
 have h:∀b c:Nat,c≠b->D4 c b=true->(∀d,d≠b->D4 d b=true->D4 d c=true)->Fm E4 b c:= λb c g j k=>⟨g,(WG _ _).1 j, λd e f=>(WG _ _).1 (k d e ((WG _ _).2 f))⟩
 intro b f;match b,f with
 |0,_=>exact .inl ⟨rfl,rfl⟩
 | 1,_=>
   refine .inr ⟨dC,0,dC,rfl,h 1 0 dC dC λd e a=> ?_⟩;match d with
   |0=>decide
   |1=>exact absurd rfl e
   |2=>exact absurd a dC
   |3=>exact absurd a dC
   |d+4=>simp[D4,R4]at a
 | 2,_=>
   refine .inr ⟨dC,1,dC,rfl,h 2 1 dC dC λd e a=> ?_⟩;match d with
   |0=>decide
   |1=>decide
   |2=>exact absurd rfl e
   |3=>exact absurd a dC
   |d+4=>simp[D4,R4]at a
 | 3,_=>
   refine .inr ⟨dC,1,dC,rfl,h 3 1 dC dC λd e a=> ?_⟩;match d with
   |0=>decide
   |1=>decide
   |2=>exact absurd a dC
   |3=>exact absurd rfl e
   |d+4=>simp[D4,R4]at a
def Zw(y:R7):Bool:=decide (y.aU=0)&&decide (y.depth<=64)
theorem TE{b:List (List Int)}{a:Int}{xs:List MI}(h:∀x∈xs,x.op≠28):∀k,Ha p xs b D a k=a
 |0=>rfl
 | k+1=>by
   unfold Ha;rw[TE h k];cases e:xs[k]? with
   |none=>rfl
   |some x=>simp only[];rw[lY (h x (lP e))]
def J4:Nat->Nat:=jf (List.range 4)
theorem uj{x:Nat}(h:x∈E4 b):(b=0/\x=1)\/(b=1/\x=2)\/(b=1/\x=3)\/(b=2/\x=1):=by
 match b,h with
 |0,h=>simp only[E4,lW,lZ,mS]at h;omega
 |1,h=>simp only[E4,lW,lZ,mS]at h;omega
 |2,h=>simp only[E4,lW,lZ,mS]at h;omega
 |3,h=>cases h
 |b+4,h=>cases h
theorem um:Tt 1 b=true↔b=1\/b=2:=by unfold Tt;simp
def s1(n:Nat)(b:Nat):Int:=if b=1 then 2 else(n:Int)+4
def s2(v:Int)(b:Nat):Int:=if b=0 then 2 else if b=3 then 2+v+2 else 2+v
abbrev Hw:MI:=⟨0,0,0,0⟩
def V9(a n j:Nat):List MI:=List.replicate a Hw++[⟨1,0,0,0⟩,⟨3,0,0,0⟩,⟨27,0,0,(a:Int)+2+n+2⟩]++List.replicate j Hw
def F7(a n:Nat):List MI:=V9 a n n++[⟨25,0,0,(a:Int)+2⟩,⟨29,0,0,0⟩]
def Ch(v a n:Nat):List MI:=
 if v=2 then(F7 a n).set (a+2) ⟨27,1,0,(a:Int)+2+n+2⟩
 else if v=3 then((((F7 a n).set (a+2+1) ⟨1,0,0,0⟩).set (a+2+2) ⟨22,3,1,0⟩).set (a+2+3) ⟨26,0,0,(a:Int)+2+n+2⟩).set (a+2) ⟨27,0,0,(a:Int)+2+1⟩
 else if v=4 then((F7 a n).set (a+2+1) ⟨1,0,0,0⟩).set (a+2+2) ⟨3,0,0,0⟩
 else F7 a n
def N0(v a k:Nat):List MT:=if v=1 then[]else if v=5 then[⟨0,(a:Int)+2,0,(k:Int)+1⟩]else if v=6 then[⟨0,(a:Int)+2,0,k⟩,⟨0,(a:Int)+2+1,1,3⟩]else[⟨0,(a:Int)+2,0,k⟩]
abbrev Gy(v a n:Nat):MF:=⟨[],0,[3,3],Ch v a n⟩
def CE(v a n k:Nat):MP:=JU [3,3] (Ch v a n) k (N0 v a k)
theorem Zr(a n j:Nat):(V9 a n j).length=a+3+j:=by unfold V9;simp only[mB,nY,nQ,nT]
theorem AN(a n:Nat):(F7 a n).length=a+n+5:=by unfold F7;rw[mB,Zr];show a+3+n+2=_;omega
theorem H5(v a n:Nat):(Ch v a n).length=a+n+5:=by
 unfold Ch;split
 . rw[mF,AN]
 split
 . rw[mF,mF,mF,mF,AN]
 split
 . rw[mF,mF,AN]
 exact AN a n
def us(len:Nat)(x:MI):Bool:=decide (0<=x.op)&&decide (x.op<=29)&&
 ((decide (AH x.op=0)&&decide (x.a=0)&&decide (x.b=0)&&decide (x.c=0))||
  (decide (AH x.op=1)&&decide (x.a=0)&&decide (x.b=0)&&decide (x.c=0))||
  (decide (AH x.op=2)&&(decide (x.a=0)||decide (x.a=1))&&decide (x.b=0)&&decide (x.c=0))||
  (decide (AH x.op=8)&&EL x.a&&EL x.b&&decide (x.a≠x.b)&&decide (x.c=0))||
  (decide (AH x.op=9)&&decide (x.a=0)&&decide (x.b=0)&&decide (0<=x.c)&&decide (x.c<len))||
  (decide (AH x.op=10)&&(decide (x.a=0)||decide (x.a=1))&&decide (x.b=0)&&decide (0<=x.c)&&decide (x.c<len)))
theorem rF{v a n k:Nat}{x:MI}(h:us (Ch v a n).length x=true):AV (CE v a n k) (Gy v a n) x:=by
 unfold us at h;simp only[mu,Bool.or_eq_true,mo]at h;have l:¬AJ (Gy v a n) 0=0:=by show¬(3:Int)=0;decide
 have m:¬AJ (Gy v a n) 1=0:=by show¬(3:Int)=0;decide
 have lo:(x.a=0\/x.a=1)->¬AJ (Gy v a n) x.a=0:=by rintro(e|e)<;>rw[e]<;>assumption
 obtain⟨⟨g,j⟩,h⟩:=h;refine⟨g,j,?_⟩;rcases h with((((⟨⟨⟨e,d⟩,b⟩,c⟩|⟨⟨⟨e,d⟩,b⟩,c⟩)|⟨⟨⟨e,d⟩,b⟩,c⟩)|⟨⟨⟨⟨e,d⟩,b⟩,c⟩,f⟩)|⟨⟨⟨⟨e,d⟩,b⟩,c⟩,f⟩)|⟨⟨⟨⟨e,d⟩,b⟩,c⟩,f⟩
 . exact .inl ⟨e,d,b,c⟩
 . exact .inr (.inl ⟨e,oM,by show x.a<1;omega,b,c⟩)
 . exact .inr (.inr (.inl ⟨e,lo d,b,c⟩))
 . exact .inr (.inr (.inr (.inr (.inr (.inr (.inl ⟨e,d,b,c,f⟩))))))
 . exact .inr (.inr (.inr (.inr (.inr (.inr (.inr (.inl ⟨e,d,b,c,f⟩)))))))
 exact .inr (.inr (.inr (.inr (.inr (.inr (.inr (.inr (.inl ⟨e,lo d,b,c,f⟩))))))))
theorem YH:∀v:Fin 7,∀a:Fin 4,∀i:Fin 6,(Ch v.val a.val (3+i.val)).all (us (Ch v.val a.val (3+i.val)).length)=true:=by decide+kernel
theorem Uq:∀v:Fin 7,∀a:Fin 4,∀i:Fin 6,(Ch v.val a.val (3+i.val)).all (λx=> !Bt x||(decide (0<=x.c)&&decide (x.c<((Ch v.val a.val (3+i.val)).length:Int))))=true:=by decide+kernel
theorem Si:∀v:Fin 7,∀a:Fin 4,∀i:Fin 6,Dk [Gy v.val a.val (3+i.val)]=[0]:=by decide+kernel
def Ir(v a n:Nat):List MB:=if v=3 then[⟨0,(a:Int)+1,[1]⟩,⟨(a:Int)+2,(a:Int)+2,[2]⟩,⟨(a:Int)+3,(a:Int)+5,[3,4]⟩,⟨(a:Int)+6,(a:Int)+n+3,[1]⟩,⟨(a:Int)+n+4,(a:Int)+n+4,[]⟩]
 else[⟨0,(a:Int)+1,[1]⟩,⟨(a:Int)+2,(a:Int)+2,[2,3]⟩,⟨(a:Int)+3,(a:Int)+n+3,[1]⟩,⟨(a:Int)+n+4,(a:Int)+n+4,[]⟩]
theorem Qm:∀v:Fin 7,∀a:Fin 4,∀i:Fin 6,(AR (Ch v.val a.val (3+i.val))).map (λm=>(m.cz,m.last,m.next))=(Ir v.val a.val (3+i.val)).map (λm=>(m.cz,m.last,m.next)):=by decide+kernel
theorem rC:∀a b:List MB,a.map (λm=>(m.cz,m.last,m.next))=b.map (λm=>(m.cz,m.last,m.next))->a=b:=by
 intro a;induction a with
 |nil=>intro b e;cases b with|nil=>rfl|cons _ _=>simp at e
 | cons x r h=>
   intro b e;cases b with
   |nil=>simp at e
   | cons y s=>simp only[nh,ov,Prod.mk.injEq]at e;obtain⟨⟨c,d,f⟩,g⟩:=e;rw[h s g];obtain⟨_,_,_⟩:=x;obtain⟨_,_,_⟩:=y;simp only[]at c d f;subst c d f;rfl
structure FZ(v a n k:Nat):Prop where
 v:v<7
 a:a<4
 n0:3<=n
 n1:n<9
 k0:1<=k
 k1:k<31
section
variable {v a n k:Nat}
theorem FZ.i(h:FZ v a n k):∃i:Fin 6,3+i.val=n:=⟨⟨n-3,by have:=h.n1;omega⟩,by have:=h.n0;show 3+(n-3)=n;omega⟩
theorem Uu(h:FZ v a n k):AR (Ch v a n)=Ir v a n:=by obtain⟨i,rfl⟩:=h.i;exact rC _ _ (Qm ⟨v,h.v⟩ ⟨a,h.a⟩ i)
theorem TC(h:FZ v a n k):Bd (Ch v a n):=by have f:=H5 v a n;have d:=h.a;have e:=h.n1;refine⟨oM,oM, λi x c b=> ?_⟩;obtain⟨j,rfl⟩:=h.i;have:=nV.1 (Uq ⟨v,h.v⟩ ⟨a,h.a⟩ j) x (lP c);rw[b]at this;simpa using this
theorem Qp(h:FZ v a n k):Dk (CE v a n k).aC=[0]:=by obtain⟨i,rfl⟩:=h.i;exact Si ⟨v,h.v⟩ ⟨a,h.a⟩ i
theorem Hh(h:FZ v a n k):AY (CE v a n k) 0:=by
 have A:=H5 v a n;have w:=h.a;have y:=h.n1;have ok:∀x∈Ch v a n,AV (CE v a n k) (Gy v a n) x:=by obtain⟨i,rfl⟩:=h.i;exact λx p=>rF (nV.1 (YH ⟨v,h.v⟩ ⟨a,h.a⟩ i) x p)
 refine .inr (.inr (.inr (.inr (.inr ⟨rfl,⟨rfl, λj g r t=> ?_⟩,⟨by show 1<=64;omega, λj g c b=> ?_⟩,⟨by show¬1=0;omega,by show 1<=32;omega, λj g f l=> ?_, λf l=> ?_⟩, λj g f l i m x p=> ?_,?_⟩))))
 . (have:r=[]:=by have:=lP t;simpa[CE,JU]using this);subst this;exact⟨oC _,rfl⟩
 . (have:c=⟨3,(k:Int)⟩:=by simpa[CE,JU]using lP b);subst this;exact⟨rfl, λe=>absurd e (by show¬(3:Int)=1;decide)⟩
 . (have:f=Gy v a n:=by simpa[CE,JU]using lP l);subst this;exact⟨oC _,by show 0+2<=32;omega,rfl,rfl,.inl rfl,by show¬(Ch v a n).length=0;omega,by show(Ch v a n).length<=1024;omega⟩
 . (have:f=Gy v a n:=by simpa[CE,JU]using lP l);subst this;exact⟨rfl,rfl⟩
 . (have:f=Gy v a n:=by simpa[CE,JU]using lP l);subst this;exact ok x (lP p)
 have c0:∀{z:Int},EQ (CE v a n k) ⟨0,(a:Int)+2,0,z⟩:= λ{z}=>⟨Gy v a n,rfl,by show(0:Int)<=0;decide,by show 0<=(a:Int)+2;omega,by show(a:Int)+2<((Ch v a n).length:Int);omega,rfl⟩
 have c1:EQ (CE v a n k) ⟨0,(a:Int)+2+1,1,3⟩:=⟨Gy v a n,rfl,by show(0:Int)<=0;decide,by show 0<=(a:Int)+2+1;omega,by show(a:Int)+2+1<((Ch v a n).length:Int);omega,rfl⟩;show Cw (CE v a n k);have u:(CE v a n k).bO=N0 v a k:=rfl;unfold Cw;rw[u];unfold N0;have one:∀{z:Int},([⟨0,(a:Int)+2,0,z⟩]:List MT).length<=64/\∀j,j<([⟨0,(a:Int)+2,0,z⟩]:List MT).length->Hd (CE v a n k) [⟨0,(a:Int)+2,0,z⟩] j:= λ{z}=>⟨by show 1<=64;omega, λj g c b=>by
  have s:j=0:=by have:j<1:=g;omega
  subst s;cases b
  exact⟨c0, λi d m=>oM⟩⟩
 split
 . exact⟨oC _, λj g=>absurd g (Nat.not_lt_zero _)⟩
 split
 . exact one
 split
 . refine⟨by show 2<=64;omega, λj g c b=> ?_⟩;match j,b with
   |0,b=>cases b;exact⟨c0, λi d m=>oM⟩
   | 1,b=>(cases b);refine⟨c1, λi d m q=> ?_⟩;obtain rfl:i=0:=oM;(cases q);exact .inr ⟨rfl,by show(a:Int)+2<(a:Int)+2+1;omega⟩
   |j+2,b=>cases b
 exact one
end
theorem XM(u:Y)(e:Aj)(k n:Nat)(cs:List J)(a: ↑cs=n*k)(b:n<=maxLen):Ab (Ac u (Ak cs.toArray e)) u e k (Z u n n) n cs:=⟨a,.inr ⟨u,n,cs.toArray,rfl,Nat.le_refl _,oe _ _,Nat.le_refl _,b,by simpa using a,by rw[<-a];simp⟩⟩
theorem DJ(u:Y)(X:Array J)(t:Aj):∃a,Ac u (Ak X t)=a/\(a:Nat)= ↑u+1/\Ah u u a/\Ay a u X t:=⟨_,rfl,oQ _ _,Al _ _,Ay.new _ _ _⟩
theorem Yh:(Tryz.prog.info? 25).map (λi=>(i.zero,i.size,i.bytes))=K (K (An #[Ag Af 0,Ag Af 0,Ag Af 0,Ag Af 0]),4,32):=kR
structure Yt(U wr:Y)(g n cp:Nat)(cs:List MI):Prop where
 own:Ab wr U 25 4 (Z g n cp) n (Ad MI.cells cs)
 cq:Ah U U wr
theorem Yt.av{U wr c:Y}{g n a:Nat}{cs:List MI}(h:Yt U wr g n a cs)(b:Ah wr wr c):Yt U c g n a cs:=⟨AD h.own b lR,Ar h.cq lR b⟩
theorem Yt.grow{U wr b:Y}{g n c f a d:Nat}{cs e:List MI}(h:Yt U wr g n c cs)(k:Ab b U 25 4 (Z f a d) a (Ad MI.cells e))(j:wr.grownBy b (Z g n c).ownBlock):Yt U b f a d e:=⟨k,h.cq.grown j h.cq.size (λq l=>(h.own.lt q l).1)⟩
theorem Xz(n:Nat):Ad MI.cells (List.replicate n Hw)++[Ag Af 0,Ag Af 0,Ag Af 0,Ag Af 0]=Ad MI.cells (List.replicate (n+1) Hw):=by rw[List.replicate_succ',mW (ys:=[_])];rfl
theorem Yj(a n:Nat):Ad MI.cells (List.replicate a Hw)++[Ag Af 1,Ag Af 0,Ag Af 0,Ag Af 0,Ag Af 3,Ag Af 0,Ag Af 0,Ag Af 0,Ag Af 27,Ag Af 0,Ag Af 0,Ag Af ((a:Int)+2+n+2)]=Ad MI.cells (V9 a n 0):=by unfold V9;rw[show List.replicate 0 Hw=[]from rfl,nm,mW (ys:=[_,_,_])];rfl
theorem Xt(a n j:Nat):Ad MI.cells (V9 a n j)++[Ag Af 0,Ag Af 0,Ag Af 0,Ag Af 0]=Ad MI.cells (V9 a n (j+1)):=by unfold V9;rw[List.replicate_succ',<-nD,mW (ys:=[_])];rfl
theorem Yk(a n:Nat):Ad MI.cells (V9 a n n)++[Ag Af 25,Ag Af 0,Ag Af 0,Ag Af ((a:Int)+2),Ag Af 29,Ag Af 0,Ag Af 0,Ag Af 0]=Ad MI.cells (F7 a n):=by unfold F7;rw[mW (ys:=[_,_])];rfl
structure MZ(w W:Y)(N g cp:Nat)(cs:List MI)(k:Int)(tc:Array J):Prop where
 l:Ii W (N+1+1+1) (N+1+1+1+1) (N+1+1+1+1+1+1) (N+1+1+1+1+1) N (K ⟨N+1,0,M⟩) (K ⟨N+1+1,0,M⟩) 0 0 0 [3,3] cs k g cp
 o:Ab W w 25 4 (Z g cs cp) cs (Ad MI.cells cs)
 t:Ay W (N+1+1+1+1+1+1+1) tc 37
 lo: ↑w<=N/\ ↑w<=g/\g<N
 cq:Ah w w W
theorem MZ.av{w W b:Y}{N g c:Nat}{cs:List MI}{k:Int}(h:MZ w W N g c cs k d)(a:Ah W W b):MZ w b N g c cs k d:=⟨h.l.av a,AD h.o a lR,h.t.av a,h.lo,Ar h.cq lR a⟩
abbrev Pm(N:Nat)(a:J):VP:=⟨Z (K ⟨N+1+1+1,0,M⟩) 3 3,Z (K ⟨N+1+1+1+1,0,M⟩) 1 1,Z (K ⟨N+1+1+1+1+1+1,0,M⟩) 1 1,a⟩
theorem rB{w u:Y}{g cc:Nat}{cs:List MI}(k b:Int)(e:Ab u w 25 4 (Z g cs cc) cs (Ad MI.cells cs))(c:Ah w w u)(D: ↑cs<=cc)(d: ↑w<=g/\g< ↑u):∃W,(Ac (Ac (Ac (Ac (Ac (Ac (Ac (Ac u (Ak #[] 2)) (Ak #[] 2)) (Ak #[] 2)) (Ak #[Z u 0 0,Z (K ⟨(u:Nat)+1,0,M⟩) 0 0,Z (K ⟨(u:Nat)+1+1,0,M⟩) 0 0] 27)) (Ak #[Ag Af 3,Ag .u32 k] 31)) (Ak #[Ag Af 3,Ag Af 3] 2)) (Ak #[Z M 0 0,Ag Af 0,Z (K ⟨(u:Nat)+1+1+1+1+1,0,M⟩) 2 2,Z g cs cc] 34)) (Ak #[Ag Af 0,b,Ag Af 0,Ag .u32 k] 37))=W/\MZ w W u g cc cs k #[Ag Af 0,b,Ag Af 0,Ag .u32 k]/\Ah u u W:=by obtain⟨I,s,G,c0,T⟩:=DJ u #[] 2;rw[s];obtain⟨L,t,s1,c1,E⟩:=DJ I #[] 2;rw[t];obtain⟨N,v,s2,c2,F⟩:=DJ L #[] 2;rw[v];obtain⟨O,y,n,c3,f⟩:=DJ N #[Z u 0 0,Z (K ⟨(u:Nat)+1,0,M⟩) 0 0,Z (K ⟨(u:Nat)+1+1,0,M⟩) 0 0] 27;rw[y];obtain⟨P,z,p,c4,h⟩:=DJ O #[Ag Af 3,Ag .u32 k] 31;rw[z];obtain⟨Q,A,q,c5,j⟩:=DJ P #[Ag Af 3,Ag Af 3] 2;rw[A];obtain⟨R,B,r,c6,l⟩:=DJ Q #[Z M 0 0,Ag Af 0,Z (K ⟨(u:Nat)+1+1+1+1+1,0,M⟩) 2 2,Z g cs cc] 34;rw[B];obtain⟨S,C,H,c7,m⟩:=DJ R #[Ag Af 0,b,Ag Af 0,Ag .u32 k] 37;rw[C];rw[G]at s1 E;rw[s1]at s2 F;rw[s2]at n f;rw[n]at p h;rw[p]at q j;rw[q]at r l;rw[r]at H m;have a:=(Ar (Ar (Ar (Ar (Ar (Ar (Ar c0 lR c1) lR c2) lR c3) lR c4) lR c5) lR c6) lR c7);exact⟨S,rfl,⟨⟨((((f.av c4).av c5).av c6).av c7),(((h.av c5).av c6).av c7),(l.av c7),((j.av c6).av c7),(Rd.eP e).av a lR,D⟩,AD e a lR,m,⟨c.size,d.1,d.2⟩,Ar c lR a⟩,a⟩
theorem ZA{w:Y}{base:Nat}{e:Aj}{g k n c m:Nat}{xs:List J}(h:Ab w base e k (Z g n c) m xs):Ab w g e k (Z g n c) m xs:=by
 refine⟨h.1,?_⟩;rcases h.2 with⟨a,d⟩|⟨p,cap,b,a,q,f,j,l⟩
 . exact .inl ⟨a,d⟩
 cases a;exact .inr ⟨g,c,b,rfl,Nat.le_refl _,f,j,l⟩
theorem Ii.jW{w:Y}{p m d n g:Nat}{y z A:Option Addr}{q s t:Nat}{v:List Int}{cs:List MI}{k:Int}{cc:Nat}(h:Ii w p m d n y z A q s t v cs k g cc){a:Addr}(b:p≠a.block/\m≠a.block/\d≠a.block/\n≠a.block/\g≠a.block)(V:J):Ii (w.setCell a V) p m d n y z A q s t v cs k g cc:=⟨h.r.other b.1 V,h.k.other b.2.1 V,h.f.other b.2.2.1 V,h.l.other b.2.2.2.1 V,⟨h.c.1,by
 rcases h.c.2 with e|⟨E,F,c1,B,C⟩
 . exact .inl e
 cases B
 refine .inr ⟨g,0,_,rfl, λj u D=> ?_⟩;have:=C j u D;unfold World.cell? at this⊢;simp only[oJ w a g V b.2.2.2.2]at this⊢;exact this⟩,h.cc⟩
theorem MZ.down{w U W:Y}{N g:Nat}{cs:List MI}{k:Int}{c:Array J}(h:MZ U W N g b cs k c)(a:Ah w w U):MZ w W N g b cs k c:=⟨h.l,Bm h.o a.size,h.t,⟨mC a.size h.lo.1,mC a.size h.lo.2.1,h.lo.2.2⟩,Ar a lR h.cq⟩
theorem MZ.put{w W:Y}{N g c b i:Nat}{cs:List MI}{k:Int}(h:MZ w W N g c cs k d)(f:b<g)(e: ↑w<=b)(V:J):MZ w (Aa W ⟨b,i,M⟩ V) N g c cs k d:=by have j:=h.lo.2.2;refine⟨h.l.jW (a:=⟨b,i,M⟩) ⟨by show _≠b;omega,by show _≠b;omega,by show _≠b;omega,by show _≠b;omega,by show _≠b;omega⟩ V,?_,h.t.other (a:=⟨b,i,M⟩) (by show _≠b;omega) V,h.lo,h.cq.setCell e V⟩;exact Bm (mY (ZA h.o) (show(⟨b,i,M⟩:Addr).block<g from f) V) h.lo.2.1
theorem SV(a n k:Nat)(w:Y)(ha:a<4)(hn:n<9)(hk:k<100):
 Ai Aq 10 #[a,Ag .u32 (k:Int),n] w λe w'=>∃N g A:Nat,e=Am (An #[(Pm N (Z (K ⟨N+1+1+1+1+1+1+1,0,M⟩) 1 1)).r,(Pm N (Z (K ⟨N+1+1+1+1+1+1+1,0,M⟩) 1 1)).k,(Pm N (Z (K ⟨N+1+1+1+1+1+1+1,0,M⟩) 1 1)).f,Z (K ⟨N+1+1+1+1+1+1+1,0,M⟩) 1 1])/\MZ w w' N g A (F7 a n) k #[Ag Af 0,Ag Af ((a:Int)+2),Ag Af 0,Ag .u32 (k:Int)]:=by
 obtain⟨R,Q,I,L,O⟩:=nE Yh;go_enter func10,ntmps10;go_upto_region 1 with fail
 have F:Ae (Ay (Ac w (Ak #[Z M 0 0,Z M 0 0,Z M 0 0,Z M 0 0] 40)) w #[Z M 0 0,Z M 0 0,Z M 0 0,Z M 0 0] 40/\Ah w w (Ac w (Ak #[Z M 0 0,Z M 0 0,Z M 0 0,Z M 0 0] 40))):=⟨Ay.new _ _ _,Al _ _⟩
 generalize Ac w (Ak #[Z M 0 0,Z M 0 0,Z M 0 0,Z M 0 0] 40)=h at F⊢;generalize ae:w.heap.size=l at F⊢;have E:=Aw ae;clear ae;go_upto_region 2 with fail
 have G:Ae (Yt h (Ac h (Ak #[] 25)) h 0 0 (List.replicate 0 Hw)):=⟨XM h 25 4 0 [] rfl oX,Al _ _⟩;generalize Ac h (Ak #[] 25)=U4 at G⊢;generalize aj:h.heap.size=gc at G⊢;clear aj;go_wp2_with fail;go_loopw [7,8] (λV i wr=>∃(j g A:Nat),j<=a/\i=Ag Af (j:Int)/\V=Z g j A/\Ae (Yt h wr g j A (List.replicate j Hw))) (λ_ i _=>a-(intOf i).toNat)
 case atStart=>exact⟨0,gc,0,oM,rfl,rfl,G⟩
 clear G;obtain⟨j,g1,X,hj,rfl,rfl,E4⟩:=hrel;by_cases aE:j<a;case pos=>
  have au:(j:Int)<(a:Int):=oM;have d:=Aw (E4.av (Al wr (Ak #[Ag Af 0,Ag Af 0,Ag Af 0,Ag Af 0] 25)));clear E4;go_wp2_with (first|(at_builtin;refine wpList_append_lies _ rfl _ _ 26 rfl h 25 R (An #[Ag Af 0,Ag Af 0,Ag Af 0,Ag Af 0]) 4 32 underlying26 Q I L O rfl dC (Z g1 j X) (j) (Ad MI.cells (List.replicate j Hw)) rfl d.own wr 1 1 [Ag Af 0,Ag Af 0,Ag Af 0,Ag Af 0] rfl rfl (IU wr _ _) (by intro q u;simp only[lW,lZ,mS]at u;rcases u with rfl|rfl|rfl|rfl<;>rfl) oM oX oM d.cq.size _ rfl ?_;intro p y b m t B C;rw[Xz]at m;have s:=Aw (d.grow m t);clear m t B C)|go_in);go_roundw;case rel=>exact⟨j+1,p,y,oM,by go_num,rfl,s⟩
  exact oI
 case neg=>
  obtain rfl:j=a:=oM;have au:¬(j:Int)<(j:Int):=oM;have d:=Aw (E4.av (Al wr (Ak #[Ag Af 1,Ag Af 0,Ag Af 0,Ag Af 0,Ag Af 3,Ag Af 0,Ag Af 0,Ag Af 0,Ag Af 27,Ag Af 0,Ag Af 0,Ag Af ((j:Int)+2+n+2)] 25)));clear E4;go_upto_region 8 with(first|(at_builtin;refine wpList_append_lies _ rfl _ _ 26 rfl h 25 R (An #[Ag Af 0,Ag Af 0,Ag Af 0,Ag Af 0]) 4 32 underlying26 Q I L O rfl dC (Z g1 j X) (j) (Ad MI.cells (List.replicate j Hw)) rfl d.own wr 3 3 [Ag Af 1,Ag Af 0,Ag Af 0,Ag Af 0,Ag Af 3,Ag Af 0,Ag Af 0,Ag Af 0,Ag Af 27,Ag Af 0,Ag Af 0,Ag Af ((j:Int)+2+n+2)] rfl rfl (IU wr _ _) (by intro q u;simp only[lW,lZ,mS]at u;rcases u with rfl|rfl|rfl|rfl|rfl|rfl|rfl|rfl|rfl|rfl|rfl|rfl<;>rfl) oM oX oM d.cq.size _ rfl ?_;intro p y b m t B C;rw[Yj j n]at m;have s:=Aw (d.grow m t);clear m t B C)|go_in)
  clear d;go_wp2_with fail;go_loopw [7,10] (λV i wr=>∃(c g A:Nat),c<=n/\i=Ag Af (c:Int)/\V=Z g (j+3+c) A/\Ae (Yt h wr g (j+3+c) A (V9 j n c))) (λ_ i _=>n-(intOf i).toNat)
  case atStart=>exact⟨0,p,y,oM,rfl,rfl,s⟩
  clear s;obtain⟨c,g3,aa,hi,rfl,rfl,H⟩:=hrel;by_cases aA:c<n;case pos=>have aq:(c:Int)<(n:Int):=oM;have d:=Aw (H.av (Al wr (Ak #[Ag Af 0,Ag Af 0,Ag Af 0,Ag Af 0] 25)));clear H;go_wp2_with (first|(at_builtin;refine wpList_append_lies _ rfl _ _ 26 rfl h 25 R (An #[Ag Af 0,Ag Af 0,Ag Af 0,Ag Af 0]) 4 32 underlying26 Q I L O rfl dC (Z g3 (j+3+c) aa) ((j+3+c)) (Ad MI.cells (V9 j n c)) rfl d.own wr 1 1 [Ag Af 0,Ag Af 0,Ag Af 0,Ag Af 0] rfl rfl (IU wr _ _) (by intro q u;simp only[lW,lZ,mS]at u;rcases u with rfl|rfl|rfl|rfl<;>rfl) oM oX oM d.cq.size _ rfl ?_;intro p y b m t B C;rw[Xt]at m;have s:=Aw (d.grow m t);clear m t B C)|go_in);go_roundw;(case rel=>exact⟨c+1,p,y,oM,by go_num,rfl,s⟩);exact oI
  case neg=>
   obtain rfl:c=n:=oM;have aq:¬(c:Int)<(c:Int):=oM;have d:=Aw (H.av (Al wr (Ak #[Ag Af 25,Ag Af 0,Ag Af 0,Ag Af ((j:Int)+2),Ag Af 29,Ag Af 0,Ag Af 0,Ag Af 0] 25)));clear H;(go_upto_region 13 with(first|(at_builtin;refine wpList_append_lies _ rfl _ _ 26 rfl h 25 R (An #[Ag Af 0,Ag Af 0,Ag Af 0,Ag Af 0]) 4 32 underlying26 Q I L O rfl dC (Z g3 (j+3+c) aa) ((j+3+c)) (Ad MI.cells (V9 j c c)) rfl d.own wr 2 2 [Ag Af 25,Ag Af 0,Ag Af 0,Ag Af ((j:Int)+2),Ag Af 29,Ag Af 0,Ag Af 0,Ag Af 0] rfl rfl (IU wr _ _) (by intro q u;simp only[lW,lZ,mS]at u;rcases u with rfl|rfl|rfl|rfl|rfl|rfl|rfl|rfl<;>rfl) oM oX oM d.cq.size _ rfl ?_;intro p y b m t B C;rw[Yk]at m;have s:=Aw (d.grow m t);clear m t B C)|go_in));clear d;(have S:(F7 j c).length=j+3+c+2:=by rw[AN];omega);(have D:Ab b h 25 4 (Z p (F7 j c).length y) (F7 j c).length (Ad MI.cells (F7 j c)):=by rw[S];exact s.own);have ai:(F7 j c).length<=y:=by
    rcases D.2 with⟨e1,e2⟩|⟨g',cap,ax,e1,_,_,h1,_⟩
    . omega
    cases e1;exact h1
   obtain⟨W,eW,hL,hB⟩:=rB (w:=h) (k:Int) ((j:Int)+2) D s.cq ai ⟨(D.lt p rfl).1,(D.lt p rfl).2⟩;rw[S]at eW;have HL:=Aw hL;have z:=Aw ((F.1.av s.cq).av hB);have U:Ae (l< ↑h/\ ↑h<=p):=⟨F.1.lt,(D.lt p rfl).1⟩
   clear hL hB D ai s S;have q0:=z.cell 0;have q1:=z.cell 1;have q2:=z.cell 2;have q3:=z.cell 3;simp only[lQ,lO,lS]at q0 q1 q2 q3;have z0:=z.frozen 0;have z1:=z.frozen 1;have z2:=z.frozen 2;have z3:=z.frozen 3;go_wp2_with fail;clear q0 q1 q2 q3 z0 z1 z2 z3 eW;(have T:Ay (Aa (Aa (Aa (W.setCell l (Z (K ⟨(b:Nat)+1+1+1,0,M⟩) 3 3)) ⟨l,1,M⟩ (Z (K ⟨(b:Nat)+1+1+1+1,0,M⟩) 1 1)) ⟨l,2,M⟩ (Z (K ⟨(b:Nat)+1+1+1+1+1+1,0,M⟩) 1 1)) ⟨l,3,M⟩ (Z (K ⟨(b:Nat)+1+1+1+1+1+1+1,0,M⟩) 1 1)) l #[Z (K ⟨(b:Nat)+1+1+1,0,M⟩) 3 3,Z (K ⟨(b:Nat)+1+1+1+1,0,M⟩) 1 1,Z (K ⟨(b:Nat)+1+1+1+1+1+1,0,M⟩) 1 1,Z (K ⟨(b:Nat)+1+1+1+1+1+1+1,0,M⟩) 1 1] 40:=by have:=(((z.set 0 (Z (K ⟨(b:Nat)+1+1+1,0,M⟩) 3 3)).set 1 (Z (K ⟨(b:Nat)+1+1+1+1,0,M⟩) 1 1)).set 2 (Z (K ⟨(b:Nat)+1+1+1+1+1+1,0,M⟩) 1 1)).set 3 (Z (K ⟨(b:Nat)+1+1+1+1+1+1+1,0,M⟩) 1 1);simpa using this);have P:l<p:=nH U.1 U.2;have L4:MZ w (Aa (Aa (Aa (W.setCell l (Z (K ⟨(b:Nat)+1+1+1,0,M⟩) 3 3)) ⟨l,1,M⟩ (Z (K ⟨(b:Nat)+1+1+1+1,0,M⟩) 1 1)) ⟨l,2,M⟩ (Z (K ⟨(b:Nat)+1+1+1+1+1+1,0,M⟩) 1 1)) ⟨l,3,M⟩ (Z (K ⟨(b:Nat)+1+1+1+1+1+1+1,0,M⟩) 1 1)) b p y (F7 j c) (k:Int) #[Ag Af 0,Ag Af ((j:Int)+2),Ag Af 0,Ag .u32 (k:Int)]:=((((HL.down (by rw[E];exact F.2)).put P (by rw[E];exact Nat.le_refl _) _).put P (by rw[E];exact Nat.le_refl _) _).put P (by rw[E];exact Nat.le_refl _) _).put P (by rw[E];exact Nat.le_refl _) _;generalize (Aa (Aa (Aa (W.setCell l (Z (K ⟨b.heap.size+1+1+1,0,M⟩) 3 3)) ⟨l,1,M⟩ (Z (K ⟨b.heap.size+1+1+1+1,0,M⟩) 1 1)) ⟨l,2,M⟩ (Z (K ⟨b.heap.size+1+1+1+1+1+1,0,M⟩) 1 1)) ⟨l,3,M⟩ (Z (K ⟨b.heap.size+1+1+1+1+1+1+1,0,M⟩) 1 1))=WW at T L4⊢
   exact mM (v:=An #[Z (K ⟨(b:Nat)+1+1+1,0,M⟩) 3 3,Z (K ⟨(b:Nat)+1+1+1+1,0,M⟩) 1 1,Z (K ⟨(b:Nat)+1+1+1+1+1+1,0,M⟩) 1 1,Z (K ⟨(b:Nat)+1+1+1+1+1+1+1,0,M⟩) 1 1]) (results_cell_row results10 _ _ l 40 #[Z (K ⟨(b:Nat)+1+1+1,0,M⟩) 3 3,Z (K ⟨(b:Nat)+1+1+1+1,0,M⟩) 1 1,Z (K ⟨(b:Nat)+1+1+1+1+1+1,0,M⟩) 1 1,Z (K ⟨(b:Nat)+1+1+1+1+1+1+1,0,M⟩) 1 1] (0,0) _ rfl T underlying40 rfl kR) rfl ⟨_,rfl,p,y,L4⟩
end Go.Proofs.YtkgohaigebcgoaaGreatDoor
