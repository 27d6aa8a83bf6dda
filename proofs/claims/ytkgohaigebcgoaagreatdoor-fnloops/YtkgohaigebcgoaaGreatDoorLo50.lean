import Derived.Test.YtkgohaigebcgoaaGreatDoorLo49
import Derived.Test.YtkgohaigebcgoaaGreatDoorLo23
namespace Go.Proofs.YtkgohaigebcgoaaGreatDoor
open Go.ChangeShapes Go.WideShapes Go.ChangeAt Go.RowKit Go.Proofs.Tryz
set_option linter.unusedVariables false
open Go.Value renaming slice → Z,agg → An,tuple → Ap,int → Ag
open Option renaming some → K,none → M
open Go renaming Value → J,World → Y,Calls → Ai,TypeId → Aj
open Go.RowKit renaming Hid → Ae,Below → Ah
open Go.IntKind renaming i64 → Af
open Go.Obj renaming cells → Ak
open Go.Ending renaming returned → Am
open Go.Proofs.Tryz renaming prog → Aq
open Go.World renaming setCell → Aa,ownsRow → Ab,alloc → Ac
open List renaming flatMap → Ad
set_option maxHeartbeats 16000000
set_option maxRecDepth 100000
variable {P:Array J}{b:Nat}{u:Y}{L:List (J×List Int)}{p:MP}
def BoI(p:MP)(w:Y)(e:Ending)(f:Y):Prop:=∃(c g a:Int) (b d:J) (C D:List Int),e=Am (An #[c,g,a,b,d])/\K3 p c g a C D/\CO f w [(b,C),(d,D)]/\Ah w w f
theorem L6(u:Y)(b:Nat):CO u b [(sN,[]),(sN,[])]:=⟨λx a=>by
 rcases jK.1 a with rfl|a
 . exact kH _ _ _ _
 . rw[jU.1 a];exact kH _ _ _ _,by
 refine .cons (λy c=> ?_) (.cons (λy c=>by cases c) .nil);intro g d;cases d⟩
structure nZ(w u:Y)(P:Array J):Prop where
 pb:Ay u w P 40
 rb:Ay u ((w:Nat)+1) #[iZ 0,iZ 0,iZ 0,sN,sN] 55
 cq:Ah w w u
theorem nZ.av{w u b:Y}(h:nZ w u P)(a:Ah u u b):nZ w b P:=⟨h.pb.av a,h.rb.av a,Ar h.cq lR a⟩
theorem nZ.gw{w u:Y}(h:nZ w u P)(a b c x3 d:J):Ah w w (Aa (Aa (Aa (Aa (Aa u ⟨(w:Nat)+1,0,M⟩ a) ⟨(w:Nat)+1,1,M⟩ b) ⟨(w:Nat)+1,2,M⟩ c) ⟨(w:Nat)+1,3,M⟩ x3) ⟨(w:Nat)+1,4,M⟩ d):=((((h.cq.setCell (by show(w:Nat)<= ↑w+1;omega) _).setCell (by show(w:Nat)<= ↑w+1;omega) _).setCell (by show(w:Nat)<= ↑w+1;omega) _).setCell (by show(w:Nat)<= ↑w+1;omega) _).setCell (by show(w:Nat)<= ↑w+1;omega) _
theorem Jh.av{w u:Y}{s:J}{fs:List MF}(h:Jh w s fs)(d:Ah w w u):Jh u s fs:=by obtain⟨ys,a,b,c⟩:=h;exact⟨ys,a,b.av d lR,c⟩
theorem Hg.new{b W:Y}{r k t:Fs}{gk ok fc n d e:Nat}(h:Ab W b 2 1 (sG d n n) n (Ad As (List.replicate n (0:Int))))(i:Ab W b 2 1 (sG e n n) n (Ad As (List.replicate n (0:Int))))(g:d≠e)(f:Ah b b W):Hg b (Ac W (Ak #[.iface 90 (An #[]),Z r.a r.n r.c,Z k.a k.n k.c,sO gk ok n fc,Z t.a t.n t.c,sG d n n,sG e n n] 153)) W r k t gk ok fc d n e n n (List.replicate n 0) (List.replicate n 0):=⟨Ay.new _ _ _,jT,AC h (Al _ _) lR,jT,AC i (Al _ _) lR,g,f.size,Ar f lR (Al _ _)⟩
theorem Qv(v:VP)(p:MP)(w:Y)(hs:p.small)(hw:p.wf)(h:ET w v p)(bg:EY w v.r p.az)(bj:FZ w v.f p.aB)(bi:Jh w v.f p.aB):
 Ai Aq 20 #[An #[v.r,v.k,v.f,v.t],.iface 90 (An #[])] w (BoI p w):=by
 obtain⟨k0,bq,bG,bH,bI⟩:=km Cy;have H:=Aw (fd hs (fd hw (fd h (fd bg (fd bj bi)))));have bT:=hs.aB;obtain⟨r1,r3,Q,R,t1,t3,f1,f3,rfl⟩:=h.sl;clear hs hw h bg bj bi;generalize bu:p.aB.length=l at H bT⊢;have ai:=Aw bu;clear bu;generalize p.az.length=X at H⊢;generalize p.b8.length=T at H⊢;generalize p.bO.length=nt at H⊢;simp only[]at H;have E0:=BT w #[Z r1 X r3,Z Q T R,Z f1 l f3,Z t1 nt t3] #[iZ 0,iZ 0,iZ 0,sN,sN] 40 55;go_enter func20,ntmps20;go_upto_region 1 with fail
 refine Av (λu=>Ae (nZ w u #[Z r1 X r3,Z Q T R,Z f1 l f3,Z t1 nt t3])) ⟨E0.1,E0.2.1,E0.2.2⟩ ?_;rintro U E1;clear E0;obtain⟨p0,p1,p2,p3⟩:=CP E1.pb;go_wp2_with fail;refine(Ej ⟨Z r1 X r3,Z Q T R,Z f1 l f3,Z t1 nt t3⟩ p U H.1 H.2.1 (H.2.2.1.av E1.cq lR) (H.2.2.2.1.av E1.cq lR) (H.2.2.2.2.1.av E1.cq lR)).mono ?_;rintro e u1 ⟨⟨n,rfl,hn⟩,bb⟩;have E2:=Aw (E1.av bb);clear bb E1 p0 p1 p2 p3;by_cases aO:n=0;case neg=>rw[show KL n=.iface 190 n from by unfold KL;rw[jH aO]];have aq:Ae (K3 p 1 0 0 [] []):=.inl ⟨λe=>aO (hn.one e),rfl,rfl,rfl,rfl,rfl⟩;clear hn;obtain⟨a0,F,I,L,N⟩:=Ng E2.rb;obtain⟨aF,aG,aH,aI,aJ⟩:=Xv E2.rb;go_wp2_with fail;have G:Ae _:=((((E2.rb.set 0 (iZ 1)).set 1 (iZ 0)).set 2 (iZ 0)).set 3 sN).set 4 sN;simp only[kB,kX,kU]at G;clear a0 F I L N;obtain⟨a0,F,I,L,N⟩:=Ng G;exact kA (v:=An #[iZ 1,iZ 0,iZ 0,sN,sN]) (by simp[results,results20,go_sem,a0,F,I,L,N]) rfl ⟨1,0,0,sN,sN,[],[],rfl,aq,L6 _ _,E2.gw _ _ _ _ _⟩
 subst aO;rw[show KL 0=.nilIface from rfl];have aA:=Aw hn;clear hn;obtain⟨p0,p1,p2,p3⟩:=CP E2.pb;go_wp2_with fail;refine(Nr ⟨Z r1 X r3,Z Q T R,Z f1 l f3,Z t1 nt t3⟩ p u1 H.1 H.2.1 (H.2.2.1.av E2.cq lR) (H.2.2.2.1.av E2.cq lR) (H.2.2.2.2.1.av E2.cq lR)).mono ?_;rintro e A ⟨V,s,rfl,aQ,hO,bb⟩;obtain⟨aV,cV,eV⟩:=AF aQ;subst eV;have ax:Ae (s=CV p.aB):=by
  rcases hO with⟨_,e⟩|⟨e,_⟩
  . exact e
  exact absurd aA.o e
 have HO:Ae (Rd A 1 (Z aV s cV) s (Ad As s)/\∀z∈s,∃q:Nat,z=(q:Int)/\q<l):=⟨Rd.eS aQ,by rw[ax,<-ai];exact(Ot p.aB p.aB [] (λz hz=>by cases hz)).1⟩
 have cH:s.length<=1048576:=by rw[ax];have:=(Ot p.aB p.aB [] (λz hz=>by cases hz)).2;unfold CV;simp at this;have:=ai.o;omega
 have O:=Aw (E2.av bb);clear aQ hO bb E2 p0 p1 p2 p3;by_cases aR:s.length=0;case pos=>
  have bV:((s:Int)==0)=true:=by rw[beq_iff_eq];omega
  have aq:Ae (K3 p 2 0 0 [] []):=.inr (.inl ⟨aA,by rw[<-ax];exact List.length_eq_zero_iff.1 aR,rfl,rfl,rfl,rfl,rfl⟩);obtain⟨a0,F,I,L,N⟩:=Ng O.rb;obtain⟨aF,aG,aH,aI,aJ⟩:=Xv O.rb;go_wp2_with fail;have G:Ae _:=((((O.rb.set 0 (iZ 2)).set 1 (iZ 0)).set 2 (iZ 0)).set 3 sN).set 4 sN;simp only[kB,kX,kU]at G;clear a0 F I L N;obtain⟨a0,F,I,L,N⟩:=Ng G;exact kA (v:=An #[iZ 2,iZ 0,iZ 0,sN,sN]) (by simp[results,results20,go_sem,a0,F,I,L,N]) rfl ⟨2,0,0,sN,sN,[],[],rfl,aq,L6 _ _,O.gw _ _ _ _ _⟩
 have bV:((s:Int)==0)=false:=by rw[mN];omega
 have bQ:=Aw aR;obtain⟨gk,ok,ef⟩:∃gk ok,f1=K ⟨gk,ok,M⟩:=by
  obtain⟨z,hz⟩:∃z,s[0]?=K z:=⟨_,an oM⟩;obtain⟨q,_,hq⟩:=HO.2 z (hC hz);obtain⟨gk,ok,ck,bf,_⟩:=N5 H.2.2.1.aB (an (show q< ↑p.aB by rw[ai];exact hq))
  simp only[i8]at bf;exact⟨gk,ok,bf.1⟩
 subst ef;clear aR;have aY:Ae (ET A ⟨Z r1 X r3,Z Q T R,sO gk ok p.aB f3,Z t1 nt t3⟩ p/\Jh A (sO gk ok p.aB f3) p.aB):=by rw[ai];exact⟨H.2.2.1.av O.cq lR,H.2.2.2.2.2.av O.cq⟩
 obtain⟨p0,p1,p2,p3⟩:=CP O.pb;have ae:(w:Nat)+1<A.heap.size:=O.rb.lt;go_upto_region 6 with fail
 go_cut [6] (λsl wx=>∃KB gC gD:Nat,sl=.pointer KB/\Ae (Hg A wx KB ⟨r1,X,r3⟩ ⟨Q,T,R⟩ ⟨t1,nt,t3⟩ gk ok f3 gC l gD l l (List.replicate l 0) (List.replicate l 0)))
 case first=>
  obtain⟨p0,p1,p2,p3⟩:=CP (O.av (At A)).pb;obtain⟨wA,eA,oA,gA⟩:=run_make_full (P:=Aq) A.drew A 27 2 k0 (iZ 0) 1 underlying27 bq bG bH Af Af l (by rw[bI];omega) oX lR;obtain⟨cI,ce,aS,aK⟩:=run_make_full (P:=Aq) wA A 27 2 k0 (iZ 0) 1 underlying27 bq bG bH Af Af l (by rw[bI];omega) oX gA.size;rw[Yk]at oA aS;have bt:(A.drew:Nat)≠wA.heap.size:=by obtain⟨_,bZ,e⟩:=AY oA;have:=(jS.1 e).1;omega
  have bA:Ah A A wA:=Ar (At A) lR (BW gA);have B:=Aw (fd (AC oA (BW aK) lR) (fd aS (fd bt (fd bA (Ar bA lR (BW aK))))));clear oA aS gA aK bt bA p0 p1 p2 p3;have aj:Ae (∀W:Y,Ah A A W->W w=K (Z r1 X r3)/\W ⟨w,1,M⟩=K (Z Q T R)/\W ⟨w,2,M⟩=K (sO gk ok l f3)/\W ⟨w,3,M⟩=K (Z t1 nt t3)):= λW hW=>CP (O.av hW).pb
  refine wp_region_held_drew (S:= λW=>W w=K (Z r1 X r3)/\W ⟨w,1,M⟩=K (Z Q T R)/\W ⟨w,2,M⟩=K (sO gk ok l f3)/\W ⟨w,3,M⟩=K (Z t1 nt t3)) kR (aj.o _ (At _)) (λaa=> ?_)
  refine A5 0 ?_;refine A5 1 ?_;refine A5 2 ?_;refine A5 3 ?_;refine A5 4 ?_;refine A5 6 ?_;refine A5 7 ?_;refine A5 8 ?_;refine wpAnyH_ready (rs:=[5,9]) kR sP ?_;refine AllReadyH.cons rfl (λE m=> ?_) (AllReadyH.cons rfl (λE m=> ?_) AllReadyH.nil);focus
   go_simp;refine m.o _ _ (aj.o _ B.2.2.2.1) (λaa=> ?_);clear m E;refine DU 9 ?_;intro E m;go_simp;refine m.o _ _ (aj.o _ B.2.2.2.2) (λaa=> ?_);clear m E;refine A5 10 ?_;refine DU 11 ?_;intro E m;go_simp;refine m.o _ _ (aj.o _ (Ar B.2.2.2.2 lR (Al _ _))) (λaa=> ?_);clear m E;refine DU 12 ?_;intro E m;go_simp;refine m.o _ _ (aj.o _ (Ar B.2.2.2.2 lR (Al _ _))) (λaa=> ?_);clear m E;refine wpAnyH_done kR ?_ _;clear aa;go_wp2_with fail;go_meet;exact⟨_,_,_,rfl,Hg.new (r:=⟨r1,X,r3⟩) (k:=⟨Q,T,R⟩) (t:=⟨t1,nt,t3⟩) (gk:=gk) (ok:=ok) (fc:=f3) B.1 B.2.1 B.2.2.1 B.2.2.2.2⟩
  focus
   go_simp;refine m.o _ _ (aj.o _ B.2.2.2.1) (λaa=> ?_);clear m E;refine DU 5 ?_;intro E m;go_simp;refine m.o _ _ (aj.o _ B.2.2.2.2) (λaa=> ?_);clear m E;refine A5 10 ?_;refine DU 11 ?_;intro E m;go_simp;refine m.o _ _ (aj.o _ (Ar B.2.2.2.2 lR (Al _ _))) (λaa=> ?_);clear m E;refine DU 12 ?_;intro E m;go_simp;refine m.o _ _ (aj.o _ (Ar B.2.2.2.2 lR (Al _ _))) (λaa=> ?_);clear m E;refine wpAnyH_done kR ?_ _;clear aa;go_wp2_with fail;go_meet;exact⟨_,_,_,rfl,Hg.new (r:=⟨r1,X,r3⟩) (k:=⟨Q,T,R⟩) (t:=⟨t1,nt,t3⟩) (gk:=gk) (ok:=ok) (fc:=f3) B.2.1 B.1 B.2.2.1.symm B.2.2.2.2⟩
 case rest=>
 obtain⟨KB,gC,gD,rfl,aX⟩:=hcut;clear p0 p1 p2 p3;have aT:Ae (∀c g a C1 D1,Ty p ((s.drop 0).map Int.toNat) (List.replicate l 0) (List.replicate l 0) c g a C1 D1->K3 p c g a C1 D1):= λc g a C1 D1 h=>.inr (.inr ⟨aA, λe=>bQ.o (by rw[ax,e];rfl),List.replicate l 0,List.replicate l 0,by rw[jT];exact ai.symm,by rw[jT];exact ai.symm,by rw[<-ax];exact h⟩)
 go_wp2_with fail;go_loopw [35] (λi wr=>∃(j:Nat) (C D:List Int),j<= ↑s/\i=iZ j/\Ae (∀c g a C1 D1,Ty p ((s.drop j).map Int.toNat) C D c g a C1 D1->K3 p c g a C1 D1)/\Ae (Hg A wr KB ⟨r1,X,r3⟩ ⟨Q,T,R⟩ ⟨t1,nt,t3⟩ gk ok f3 gC l gD l l C D)) (λi _=> ↑s-(intOf i).toNat)
 case atStart=>exact⟨0,_,_,oM,rfl,aT,aX⟩
 case round=>
 clear aT aX;obtain⟨j,C,D,hj,rfl,aE,EK⟩:=hrel;by_cases bS:j< ↑s
 case neg=>
  have aq:=Aw (aE.o _ _ _ _ _ (by rw[mF oM];exact .nil));have E5:=Aw (O.av EK.cq);have EB:=Aw (fd E5.o EK.o);have bC:=O.cq.size;have bJ:Ae (∀x0 x1 x2 x3 x4,CO (Aa (Aa (Aa (Aa (Aa wr ⟨(w:Nat)+1,0,M⟩ x0) ⟨(w:Nat)+1,1,M⟩ x1) ⟨(w:Nat)+1,2,M⟩ x2) ⟨(w:Nat)+1,3,M⟩ x3) ⟨(w:Nat)+1,4,M⟩ x4) w [(sG gC l l,C),(sG gD l l,D)]):= λx0 x1 x2 x3 x4=>⟨λx hx=>by
   rcases jK.1 hx with rfl|hx
   . have:=Bt (kQ (kQ (kQ (kQ (kQ EB.2.c (a:=⟨(w:Nat)+1,0,M⟩) ae x0) (a:=⟨(w:Nat)+1,1,M⟩) ae x1) (a:=⟨(w:Nat)+1,2,M⟩) ae x2) (a:=⟨(w:Nat)+1,3,M⟩) ae x3) (a:=⟨(w:Nat)+1,4,M⟩) ae x4) bC;simp only[EB.2.cl];exact this
   . rw[jU.1 hx];have:=Bt (kQ (kQ (kQ (kQ (kQ EB.2.d (a:=⟨(w:Nat)+1,0,M⟩) ae x0) (a:=⟨(w:Nat)+1,1,M⟩) ae x1) (a:=⟨(w:Nat)+1,2,M⟩) ae x2) (a:=⟨(w:Nat)+1,3,M⟩) ae x3) (a:=⟨(w:Nat)+1,4,M⟩) ae x4) bC;simp only[EB.2.dl];exact this,by
   refine .cons (λy hy=> ?_) (.cons (λy hy=>by cases hy) .nil);rw[jU.1 hy];intro g hg e;(cases hg);(cases e);exact EB.2.ne rfl⟩
  obtain⟨a0,F,I,L,N⟩:=Ng EB.1.rb;obtain⟨aF,aG,aH,aI,aJ⟩:=Xv EB.1.rb;obtain⟨_,_,_,_,_,b5,b6⟩:=EB.2.cells;have G:Ae _:=((((E5.rb.set 0 (iZ 0)).set 1 (iZ 0)).set 2 (iZ 0)).set 3 (sG gC l l)).set 4 (sG gD l l);simp only[kB,kX,kU]at G;have G2:=Aw (Ay.av (b:=(w:Nat)+1) (t:=55) G (At _));go_upto_region 14 with fail
  go_region;all_goals go_wp2_with fail
  all_goals clear a0 F I L N
  all_goals obtain⟨a0,F,I,L,N⟩:=Ng G2
  all_goals exact kA (v:=An #[iZ 0,iZ 0,iZ 0,sG gC l l,sG gD l l]) (by simp[results,results20,go_sem,a0,F,I,L,N]) rfl ⟨0,0,0,_,_,C,D,rfl,aq,(bJ.o _ _ _ _ _).j6 (At _),Ar (E5.gw _ _ _ _ _) lR (At _)⟩
 have cj:(j:Int)<(s:Int):=oM;obtain⟨z,hz⟩:∃z,s[j]?=K z:=⟨_,an bS⟩;obtain⟨q,eq,hq⟩:=HO.2 z (hC hz);subst eq;obtain⟨ga,oa,ea,kz⟩:∃ga oa,aV=K ⟨ga,oa,M⟩/\wr ⟨ga,oa+j,M⟩=K ↑q:=by
  rcases(HO.1.av EK.cq lR).2 with⟨e0,_⟩|⟨g1,o1,bY,e1,hc⟩
  . omega
  simp only[i8,kW]at e1;exact⟨g1,o1,e1.1,hc j _ (Fc hz)⟩
 subst ea;have aW:Ae ((s.drop j).map Int.toNat=q::(s.drop (j+1)).map Int.toNat):=by obtain⟨l1,e1⟩:=f7.1 hz;show(s.drop j).map Int.toNat=_;rw[lV l1,e1,lM,i9]
 clear hz;have aZ:Ae (Ai Aq 52 #[.pointer KB,q] wr (TkR p q C D A KB ⟨r1,X,r3⟩ ⟨Q,T,R⟩ ⟨t1,nt,t3⟩ gk ok f3 gC l gD l l)):=by have:=YE p q KB ⟨r1,X,r3⟩ ⟨Q,T,R⟩ ⟨t1,nt,t3⟩ gk ok f3 gC l gD l C D A wr H.1 H.2.1 aA aY.1 aY.2 (by rw[ai];exact hq) (by rw[ai];exact EK);rw[ai]at this;exact this
 go_wp2_with fail;refine aZ.mono ?_;rintro e u5 ⟨rc,ra,rv,rd,C',D',rfl,bx,bB,br⟩;have au:=Aw (fd bx (fd bB br));clear bx bB br kz aZ;by_cases aM:rc=0;case pos=>
  subst aM;have bP:Ae (∀c g a C1 D1,Ty p ((s.drop (j+1)).map Int.toNat) C' D' c g a C1 D1->K3 p c g a C1 D1):= λc g a C1 D1 h=>aE.o c g a C1 D1 (by obtain⟨rfl,rfl⟩:=au.2.1 rfl;rw[aW];have e:=au.1.a0;exact .step (e▸au.1) h)
  go_wp2_with fail;go_roundw;case rel=>exact⟨j+1,C',D',oM,by go_num,bP,au.2.2⟩
  exact oI
 have cg:(rc != 0)=true:=by simpa using aM
 have aq:=Aw (aE.o _ _ _ _ _ (by rw[aW];exact .bad au.1 aM));have E5:=Aw (O.av au.2.2.cq);obtain⟨a0,F,I,L,N⟩:=Ng E5.rb;obtain⟨aF,aG,aH,aI,aJ⟩:=Xv E5.rb;go_wp2_with fail;have G:Ae _:=((((E5.rb.set 0 rc).set 1 q).set 2 ra).set 3 sN).set 4 sN;simp only[kB,kX,kU]at G;clear a0 F I L N;obtain⟨a0,F,I,L,N⟩:=Ng G;exact kA (v:=An #[rc,q,ra,sN,sN]) (by simp[results,results20,go_sem,a0,F,I,L,N]) rfl ⟨rc,(q:Int),ra,sN,sN,[],[],rfl,aq,L6 _ _,E5.gw _ _ _ _ _⟩
theorem CO.gy(h:CO u b L){a:Addr}(c:a.block<b)(x:J):CO (u.setCell a x) b L:=⟨λy d=>kQ (h.own y d) c x,h.sep⟩
theorem CO.base{a:Nat}(h:CO u b L)(c:a<=b):CO u a L:=⟨λy d=>Bt (h.own y d) c,h.sep⟩
theorem IA(v:VP)(p:MP)(w:Y)(hs:p.small)(hw:p.wf)(h:ET w v p)(W:EY w v.r p.az)(aa:FZ w v.f p.aB)(X:Jh w v.f p.aB):
 Ai Aq 9 #[An #[v.r,v.k,v.f,v.t]] w (BoI p w):=by
 have H:=Aw (fd hs (fd hw (fd h (fd W (fd aa X)))));obtain⟨E,F,s,x,I,L,f1,f3,rfl⟩:=h.sl;clear hs hw h W aa X;generalize p.aB.length=y at H⊢;generalize p.az.length=A at H⊢;generalize p.b8.length=z at H⊢;generalize p.bO.length=B at H⊢;simp only[]at H;have i:=BT w #[Z E A F,Z s z x,Z f1 y f3,Z I B L] #[iZ 0,iZ 0,iZ 0,sN,sN] 40 55;go_enter func9,ntmps9;go_upto_region 1 with fail
 refine Av (λu=>Ae (nZ w u #[Z E A F,Z s z x,Z f1 y f3,Z I B L])) ⟨i.1,i.2.1,i.2.2⟩ ?_;rintro U E1;clear i;obtain⟨p0,p1,p2,p3⟩:=CP E1.pb;go_wp2_with fail;refine(Qv ⟨Z E A F,Z s z x,Z f1 y f3,Z I B L⟩ p U H.1 H.2.1 (H.2.2.1.av E1.cq lR) (H.2.2.2.1.av E1.cq lR) (H.2.2.2.2.1.av E1.cq lR) (H.2.2.2.2.2.av E1.cq)).mono ?_;rintro e u1 ⟨c,g,a,vC,vD,C,D,rfl,V,j,Q⟩;obtain⟨O,R,S⟩:=AF (j.own (vC,C) sP);obtain⟨P,cD,T⟩:=AF (j.own (vD,D) sP);simp only[]at S T;subst S T;have N:=Aw (fd V j);have b:=Aw (fd (E1.av Q) (fd E1.rb.lt E1.cq.size));clear V j Q E1 p0 p1 p2 p3;obtain⟨a0,l,m,n,q⟩:=Ng b.1.rb;obtain⟨ae,ai,aj,aq,au⟩:=Xv b.1.rb;generalize ax:C.length=lc at*;generalize aA:D.length=ld at*;go_wp2_with fail;have G:Ae _:=((((b.1.rb.set 0 c).set 1 g).set 2 a).set 3 (Z O lc R)).set 4 (Z P ld cD);simp only[kB,kX,kU]at G;clear a0 l m n q;obtain⟨a0,l,m,n,q⟩:=Ng G;have d:=b.2.1;exact kA (v:=An #[c,g,a,Z O lc R,Z P ld cD]) (by simp[results,results9,go_sem,a0,l,m,n,q]) rfl ⟨c,g,a,_,_,C,D,rfl,N.1,(((((N.2.gy (a:=⟨(w:Nat)+1,0,M⟩) d _).gy (a:=⟨(w:Nat)+1,1,M⟩) d _).gy (a:=⟨(w:Nat)+1,2,M⟩) d _).gy (a:=⟨(w:Nat)+1,3,M⟩) d _).gy (a:=⟨(w:Nat)+1,4,M⟩) d _).base b.2.2,b.1.gw _ _ _ _ _⟩
theorem Ty.len{o:List Nat}{C D b D1:List Int}{c g a:Int}(h:Ty p o C D c g a b D1):c=0->b.length=C.length:=by
 induction h with
 |nil=>exact λ_=>rfl
 |bad _ hc=>exact λe=>absurd e hc
 |step _ _ d=>exact λe=>(d e).trans (by rw[ki])
theorem K3.len{g a:Int}{C D:List Int}(h:K3 p 0 g a C D):C.length= ↑p.aB/\0<p.aB.length:=by
 rcases h with⟨_,h,_⟩|⟨_,_,h,_⟩|⟨_,h,d,D0,c,f,b⟩
 . cases h
 . cases h
 refine⟨(b.len rfl).trans c,?_⟩;cases e:p.aB with
 |nil=>rw[e]at h;exact absurd rfl h
 |cons x xs=>exact Nat.succ_pos _
def qO(p:MP)(w:Y)(e:Ending)(b:Y):Prop:=∃(c g a:Int) (C D:List Int),K3 p c g a C D/\Ah w w b/\((c=0/\e=Am (Ap #[(cf C 0),.nilIface]))\/(c≠0/\e=Am (Ap #[iZ 0,.iface 116 (An #[g,a,.iface 114 c])])))
theorem K9(v:VP)(p:MP)(w:Y)(hs:p.small)(hw:p.wf)(h:ET w v p)(X:EY w v.r p.az)(ae:FZ w v.f p.aB)(aa:Jh w v.f p.aB):
 Ai Aq 13 #[An #[v.r,v.k,v.f,v.t]] w (qO p w):=by
 have H:=Aw (fd hs (fd hw (fd h (fd X (fd ae aa)))));obtain⟨L,N,F,G,O,P,f1,f3,rfl⟩:=h.sl;clear hs hw h X ae aa;have m:=Aw (Al w (Ak #[Z L p.az N,Z F p.b8 G,Z f1 p.aB f3,Z O p.bO P] 40));go_enter func13,ntmps13;go_wp2_with fail;refine(IA ⟨Z L p.az N,Z F p.b8 G,Z f1 p.aB f3,Z O p.bO P⟩ p _ H.1 H.2.1 (H.2.2.1.av m lR) (H.2.2.2.1.av m lR) (H.2.2.2.2.1.av m lR) (H.2.2.2.2.2.av m)).mono ?_;rintro e j ⟨c,g,a,vC,vD,C,D,rfl,W,q,R⟩;obtain⟨d,i,T⟩:=AF (q.own (vC,C) sP);obtain⟨n,cD,U⟩:=AF (q.own (vD,D) sP);simp only[]at T U;subst T U;have u:=Aw W;have HO:=Aw (q.own (Z d C i,C) sP);have Q:=Aw (Ar m lR R);clear W q R;go_upto_region 2 with fail
 have s:=Al j (Ak #[c,g,a,Z d C i,Z n D cD] 55);have b:Ae (Ay (Ac j (Ak #[c,g,a,Z d C i,Z n D cD] 55)) j #[c,g,a,Z d C i,Z n D cD] 55/\Ab (Ac j (Ak #[c,g,a,Z d C i,Z n D cD] 55)) ((Ac w (Ak #[Z L p.az N,Z F p.b8 G,Z f1 p.aB f3,Z O p.bO P] 40)).heap.size) 2 1 (Z d C i) C (Ad As C)/\Ah w w (Ac j (Ak #[c,g,a,Z d C i,Z n D cD] 55))):=⟨Ay.new _ _ _,AC HO s lR,Ar Q lR s⟩
 clear HO Q s m;generalize Ac j (Ak #[c,g,a,Z d C i,Z n D cD] 55)=y at b⊢;generalize j.heap.size=BB at b⊢;have x0:=b.1.cell 0;simp only[i5,f8]at x0;by_cases B:c=0;case neg=>
  have aA:(c != 0)=true:=by simpa using B
  have x1:=b.1.cell 1;have x2:=b.1.cell 2;simp only[i5,f8,i6]at x1 x2;have x:Ae (∀e l,Ah w w l->e=Am (Ap #[iZ 0,.iface 116 (An #[g,a,.iface 114 c])])->qO p w e l):= λe l A E=>⟨c,g,a,C,D,u,A,.inr ⟨B,E⟩⟩
  go_upto_region 3 with fail
  go_region;have BD:Ae (Ah w w y.drew):=Ar b.2.2 lR (At y);go_wp2_with fail;go_ret2;exact x.o _ _ BD rfl
 subst B;obtain⟨hl,hp⟩:=u.len;have V:0<C.length:=oM;have ax:(0:Int)<(C:Int):=oM;clear hl hp;obtain⟨z,I,ai,z0⟩:∃z I,d=K ⟨z,I,M⟩/\y ⟨z,I,M⟩=K ↑(cf C 0):=by
  have aq:=Rd.eS b.2.1;rcases aq.2 with⟨e0,_⟩|⟨g1,o1,au,S,aj⟩
  . omega
  simp only[i8,kW]at S;refine⟨g1,o1,S.1,(jV o1)▸aj 0 _ ?_⟩;rw[KG (an V)];exact Fc (an V)
 subst ai;have x3:=b.1.cell 3;simp only[i5,f8,i6]at x3;have x:Ae (∀e l,Ah w w l->e=Am (Ap #[(cf C 0),.nilIface])->qO p w e l):= λe l A E=>⟨0,g,a,C,D,u,A,.inl ⟨rfl,E⟩⟩
 go_wp2_with fail;go_ret2;exact x.o _ _ b.2.2 rfl
def qP(p:MP)(w:Y)(e:Ending)(r:Y):Prop:=∃(c g a:Int) (C D:List Int),K3 p c g a C D/\Ah w w r/\((c=0/\∃(a0 b d f:Option Addr) (l m n q h i j k:Nat),e=Am (An #[Ag Af 0,Ag Af 0,Ag Af 0,Ag Af 0,Z a0 l h,Z b m i,Z d n j,Z f q k,(cf C 0)]))\/(c≠0/\e=Am (An #[Ag Af 2,c,g,a,Z M 0 0,Z M 0 0,Z M 0 0,Z M 0 0,Ag Af 0])))
structure pW(w u:Y)(X:Nat)(v:VP):Prop where
 pb:Ay u X #[v.r,v.k,v.f,v.t] 40
 rb:Ay u (X+1) #[Ag Af 0,Ag Af 0,Ag Af 0,Ag Af 0,Z M 0 0,Z M 0 0,Z M 0 0,Z M 0 0,Ag Af 0] 42
 cq:Ah X w u
theorem pW.av{w u b:Y}{X:Nat}{v:VP}(h:pW w u X v)(a:Ah u u b):pW w b X v:=⟨h.pb.av a,h.rb.av a,h.cq.trans (a.mono (mI h.pb.lt))⟩
theorem ZO(t:Aj)(v:J)(w:Y):(binOp .neq 67 (.iface t v) .nilIface).run Aq w=.ok true w:=kR
theorem XV(w:Y):(binOp .neq 67 .nilIface .nilIface).run Aq w=.ok false w:=kR
theorem Gq(v:VP)(p:MP)(w:Y)(hs:p.small)(hw:p.wf)(h:ET w v p)(ae:EY w v.r p.az)(aj:FZ w v.f p.aB)(ai:Jh w v.f p.aB)(hg:CC w):
 Ai Aq 7 #[An #[v.r,v.k,v.f,v.t]] w (qP p w):=by
 have H:=Aw (fd hs (fd hw (fd h (fd ae (fd aj (fd ai hg))))));obtain⟨L,N,F,I,O,P,f1,f3,rfl⟩:=h.sl;clear hs hw h ae aj ai hg;have E0:Ae (pW w (Ac (Ac w (Ak #[Z L p.az N,Z F p.b8 I,Z f1 p.aB f3,Z O p.bO P] 40)) (Ak #[Ag Af 0,Ag Af 0,Ag Af 0,Ag Af 0,Z M 0 0,Z M 0 0,Z M 0 0,Z M 0 0,Ag Af 0] 42)) w ⟨Z L p.az N,Z F p.b8 I,Z f1 p.aB f3,Z O p.bO P⟩):=by have B:=Al w (Ak #[Z L p.az N,Z F p.b8 I,Z f1 p.aB f3,Z O p.bO P] 40);have z:=Al (Ac w (Ak #[Z L p.az N,Z F p.b8 I,Z f1 p.aB f3,Z O p.bO P] 40)) (Ak #[Ag Af 0,Ag Af 0,Ag Af 0,Ag Af 0,Z M 0 0,Z M 0 0,Z M 0 0,Z M 0 0,Ag Af 0] 42);exact⟨(Ay.new _ _ _).av z,by have:=Ay.new (Ac w (Ak #[Z L p.az N,Z F p.b8 I,Z f1 p.aB f3,Z O p.bO P] 40)) #[Ag Af 0,Ag Af 0,Ag Af 0,Ag Af 0,Z M 0 0,Z M 0 0,Z M 0 0,Z M 0 0,Ag Af 0] 42;rw[l8]at this;exact this,Ar B lR z⟩
 have ax:=ZO;have au:=XV;go_enter func7,ntmps7;go_upto_region 1 with fail
 generalize hX:w.heap.size=X at E0⊢;have A:=Aw hX;clear hX;refine Av (λu=>Ae (pW w u X ⟨Z L p.az N,Z F p.b8 I,Z f1 p.aB f3,Z O p.bO P⟩)) E0 ?_;rintro U E1;clear E0;have q0:=E1.pb.cell 0;have q1:=E1.pb.cell 1;have q2:=E1.pb.cell 2;have q3:=E1.pb.cell 3;simp only[i5,f8,i6]at q0 q1 q2 q3;go_wp2_with fail;refine(K9 ⟨Z L p.az N,Z F p.b8 I,Z f1 p.aB f3,Z O p.bO P⟩ p U H.1 H.2.1 (H.2.2.1.av E1.cq (Nat.le_of_eq A)) (H.2.2.2.1.av E1.cq (Nat.le_of_eq A)) (H.2.2.2.2.1.av E1.cq (Nat.le_of_eq A)) (H.2.2.2.2.2.1.av (by rw[A];exact E1.cq))).mono ?_;rintro e u1 ⟨c,g,a,C,D,aa,E,aq⟩;have d:=Aw (E1.av E);have HB:=Aw aa;clear E aa E1 q0 q1 q2 q3;rcases aq with⟨rfl,rfl⟩|⟨hc,rfl⟩
 focus
  have HR:Ae (∀e w' (a0 R S T:Option Addr) (n0 n1 n2 n3 V B z W:Nat),Ah w w w'->e=Am (An #[Ag Af 0,Ag Af 0,Ag Af 0,Ag Af 0,Z a0 n0 V,Z R n1 B,Z S n2 z,Z T n3 W,(cf C 0)])->qP p w e w'):= λe w' a0 R S T n0 n1 n2 n3 V B z W hb he=>⟨0,g,a,C,D,HB,hb,.inl ⟨rfl,a0,R,S,T,n0,n1,n2,n3,V,B,z,W,he⟩⟩
  have q0:=d.pb.cell 0;have q1:=d.pb.cell 1;have q2:=d.pb.cell 2;have q3:=d.pb.cell 3;simp only[i5,f8,i6]at q0 q1 q2 q3;go_wp2_with fail;refine(Lb ⟨Z L p.az N,Z F p.b8 I,Z f1 p.aB f3,Z O p.bO P⟩ p u1 H.1 (H.2.2.1.av d.cq (Nat.le_of_eq A)) (H.2.2.2.1.av d.cq (Nat.le_of_eq A))).mono ?_;rintro e u2 ⟨⟨a0,R,S,T,n0,n1,n2,n3,V,B,z,W,rfl⟩,E⟩;have Q:=Aw (d.av E);clear E d q0 q1 q2 q3;have b:=Q.rb;have i:=b.cell 0;have j:=b.cell 1;have l:=b.cell 2;have m:=b.cell 3;have n:=b.cell 4;have q:=b.cell 5;have s:=b.cell 6;have x:=b.cell 7;have y:=b.cell 8;simp only[i5,f8,i6]at i j l m n q s x y;have g0:=b.frozen 0;have g1:=b.frozen 1;have g2:=b.frozen 2;have g3:=b.frozen 3;have g4:=b.frozen 4;have g5:=b.frozen 5;have g6:=b.frozen 6;have g7:=b.frozen 7;have g8:=b.frozen 8;clear b;go_wp2_with fail;have GB:=Aw (((((((((Q.cq.setCell (p:=⟨X+1,0,M⟩) (Nat.le_succ X) (Ag Af 0)).setCell (p:=⟨X+1,1,M⟩) (Nat.le_succ X) (Ag Af 0)).setCell (p:=⟨X+1,2,M⟩) (Nat.le_succ X) (Ag Af 0)).setCell (p:=⟨X+1,3,M⟩) (Nat.le_succ X) (Ag Af 0)).setCell (p:=⟨X+1,4,M⟩) (Nat.le_succ X) ((Z a0 n0 V))).setCell (p:=⟨X+1,5,M⟩) (Nat.le_succ X) ((Z R n1 B))).setCell (p:=⟨X+1,6,M⟩) (Nat.le_succ X) ((Z S n2 z))).setCell (p:=⟨X+1,7,M⟩) (Nat.le_succ X) ((Z T n3 W))).setCell (p:=⟨X+1,8,M⟩) (Nat.le_succ X) (cf C 0));have G:Ae (Ay _ (X+1) _ 42):=(((((((((Q.rb.set 0 (Ag Af 0)).set 1 (Ag Af 0)).set 2 (Ag Af 0)).set 3 (Ag Af 0)).set 4 ((Z a0 n0 V))).set 5 ((Z R n1 B))).set 6 ((Z S n2 z))).set 7 ((Z T n3 W))).set 8 (cf C 0));simp only[kB,kX,kU]at G;clear i j l m n q s x y g0 g1 g2 g3 g4 g5 g6 g7 g8;have i:=G.cell 0;have j:=G.cell 1
  have l:=G.cell 2;have m:=G.cell 3;have n:=G.cell 4;have q:=G.cell 5;have s:=G.cell 6;have x:=G.cell 7;have y:=G.cell 8;simp only[i5,f8,i6]at i j l m n q s x y;exact kA (v:=An #[Ag Af 0,Ag Af 0,Ag Af 0,Ag Af 0,(Z a0 n0 V),(Z R n1 B),(Z S n2 z),(Z T n3 W),(cf C 0)]) (by simp[results,results7,go_sem,i,j,l,m,n,q,s,x,y]) rfl (HR.o _ _ _ _ _ _ _ _ _ _ _ _ _ _ (by rw[A];exact GB) rfl)
 have HR:Ae (∀e w',Ah w w w'->e=Am (An #[Ag Af 2,c,g,a,Z M 0 0,Z M 0 0,Z M 0 0,Z M 0 0,Ag Af 0])->qP p w e w'):= λe w' hb he=>⟨c,g,a,C,D,HB,hb,.inr ⟨hc,he⟩⟩
 go_wp2_with fail;refine(Rz g a c u1 (H.2.2.2.2.2.2.av (by rw[A];exact d.cq))).mono ?_;rintro e u2 ⟨rfl,E⟩;have Q:=Aw (d.av E);clear E d;have b:=Q.rb;have i:=b.cell 0;have j:=b.cell 1;have l:=b.cell 2;have m:=b.cell 3;have n:=b.cell 4;have q:=b.cell 5;have s:=b.cell 6;have x:=b.cell 7;have y:=b.cell 8;simp only[i5,f8,i6]at i j l m n q s x y;have g0:=b.frozen 0;have g1:=b.frozen 1;have g2:=b.frozen 2;have g3:=b.frozen 3;have g4:=b.frozen 4;have g5:=b.frozen 5;have g6:=b.frozen 6;have g7:=b.frozen 7;have g8:=b.frozen 8;clear b;go_wp2_with fail;have GB:=Aw (((((((((Q.cq.setCell (p:=⟨X+1,0,M⟩) (Nat.le_succ X) (Ag Af 2)).setCell (p:=⟨X+1,1,M⟩) (Nat.le_succ X) c).setCell (p:=⟨X+1,2,M⟩) (Nat.le_succ X) g).setCell (p:=⟨X+1,3,M⟩) (Nat.le_succ X) a).setCell (p:=⟨X+1,4,M⟩) (Nat.le_succ X) (Z M 0 0)).setCell (p:=⟨X+1,5,M⟩) (Nat.le_succ X) (Z M 0 0)).setCell (p:=⟨X+1,6,M⟩) (Nat.le_succ X) (Z M 0 0)).setCell (p:=⟨X+1,7,M⟩) (Nat.le_succ X) (Z M 0 0)).setCell (p:=⟨X+1,8,M⟩) (Nat.le_succ X) (Ag Af 0));have G:Ae (Ay _ (X+1) _ 42):=(((((((((Q.rb.set 0 (Ag Af 2)).set 1 c).set 2 g).set 3 a).set 4 (Z M 0 0)).set 5 (Z M 0 0)).set 6 (Z M 0 0)).set 7 (Z M 0 0)).set 8 (Ag Af 0));simp only[kB,kX,kU]at G;clear i j l m n q s x y g0 g1 g2 g3 g4 g5 g6 g7 g8;have i:=G.cell 0;have j:=G.cell 1;have l:=G.cell 2;have m:=G.cell 3;have n:=G.cell 4;have q:=G.cell 5;have s:=G.cell 6;have x:=G.cell 7;have y:=G.cell 8;simp only[i5,f8,i6]at i j l m n q s x y
 exact kA (v:=An #[Ag Af 2,c,g,a,Z M 0 0,Z M 0 0,Z M 0 0,Z M 0 0,Ag Af 0]) (by simp[results,results7,go_sem,i,j,l,m,n,q,s,x,y]) rfl (HR.o _ _ (by rw[A];exact GB) rfl)
theorem G7{w:Y}{b k n:Nat}{t:Aj}{cs:List J}(h:Ay w b cs.toArray t)(d: ↑cs=n*k)(c:Nat):Rd w k (Z b n c) n cs:=⟨d,.inr ⟨b,0,c,rfl, λj u a=>by rw[kT,h.cell j];simpa using a⟩⟩
theorem Hi{w:Y}{k:Nat}(a:Option Addr)(c:Nat):Rd w k (Z a 0 c) 0 []:=⟨sP,.inl ⟨rfl,a,c,rfl⟩⟩
theorem Xr:∀ls:List Int,(Ad As ls).length= ↑ls
 |[]=>rfl
 |a::r=>by rw[ke,jI,Xr r,lG];show 1+r.length=_;omega
def Ge(ls:List Int)(cs:List MI)(k:Int)(ts:List MT):MP:=⟨[[],[],[]],[⟨3,k⟩],[⟨[],0,ls,cs⟩],ts⟩
structure JT(w:Y)(bR bK bF bL:Nat)(z0 z1 z2:Option Addr)(d0 d1 d2:Nat)(ls:List Int)(cs:List MI)(k:Int)(ac:Option Addr)(cc:Nat):Prop where
 r:Ay w bR #[Z z0 0 d0,Z z1 0 d1,Z z2 0 d2] 27
 k:Ay w bK #[Ag Af 3,Ag .u32 k] 31
 f:Ay w bF #[Z M 0 0,Ag Af 0,Z bL ls ls,Z ac cs cc] 34
 l:Ay w bL (Ad As ls).toArray 2
 c:Rd w 4 (Z ac cs cc) cs (Ad MI.cells cs)
 cc: ↑cs<=cc
theorem JT.av{w b:Y}{bR bK bF bL:Nat}{z0 z1 z2:Option Addr}{d0 d1 d2:Nat}{ls:List Int}{cs:List MI}{k:Int}{ac:Option Addr}{cc:Nat}(h:JT w bR bK bF bL z0 z1 z2 d0 d1 d2 ls cs k ac cc)(a:Ah w w b):JT b bR bK bF bL z0 z1 z2 d0 d1 d2 ls cs k ac cc:=⟨h.r.av a,h.k.av a,h.f.av a,h.l.av a,h.c.av a lR,h.cc⟩
section
variable {w:Y} {bR bK bF bL:Nat} {z0 z1 z2:Option Addr} {d0 d1 d2:Nat} {ls:List Int} {cs:List MI} {k:Int} {ac:Option Addr} {cc:Nat} {vt:J} {ts:List MT}
theorem JT.rdF(h:JT w bR bK bF bL z0 z1 z2 d0 d1 d2 ls cs k ac cc):FH w ⟨Z M 0 0,Z bL ls ls,Z ac cs cc⟩ ⟨[],0,ls,cs⟩:=⟨Hi _ _,G7 h.l (by rw[lJ];exact Xr ls) _,h.c⟩
theorem JT.fT(h:JT w bR bK bF bL z0 z1 z2 d0 d1 d2 ls cs k ac cc)(ht:Rd w 4 vt ts (Ad MT.cells ts)):ET w ⟨Z bR 3 3,Z bK 1 1,Z bF 1 1,vt⟩ (Ge ls cs k ts)/\EY w (Z bR 3 3) (Ge ls cs k ts).az/\FZ w (Z bF 1 1) (Ge ls cs k ts).aB/\Jh w (Z bF 1 1) (Ge ls cs k ts).aB:=by
 have c:EY w (Z bR 3 3) (Ge ls cs k ts).az:=⟨[([],Z z0 0 d0),([],Z z1 0 d1),([],Z z2 0 d2)],rfl,G7 (cs:=[Z z0 0 d0,Z z1 0 d1,Z z2 0 d2]) h.r rfl 3, λx a=>by
  simp only[jK,jO,kM]at a;rcases a with rfl|rfl|rfl
  . exact⟨Hi _ _,_,_,rfl,ku _⟩
  . exact⟨Hi _ _,_,_,rfl,ku _⟩
  exact⟨Hi _ _,_,_,rfl,ku _⟩⟩
 have b:=G7 (cs:=[Z M 0 0,Ag Af 0,Z bL ls ls,Z ac cs cc]) (n:=1) (k:=4) h.f rfl 1;refine⟨⟨c.rd,G7 (cs:=[Ag Af 3,Ag .u32 k]) (n:=1) (k:=2) h.k rfl 1,?_,ht⟩,c,?_,?_⟩
 . exact⟨[(⟨[],0,ls,cs⟩,⟨Z M 0 0,Z bL ls ls,Z ac cs cc⟩)],rfl,b, λx a=>by rw[jU.1 a];exact h.rdF⟩
 . exact⟨[(⟨[],0,ls,cs⟩,⟨Z M 0 0,Z bL ls ls,Z ac cs cc⟩)],rfl,b, λx a=>by rw[jU.1 a];exact⟨h.rdF,.inl rfl,.inr ⟨_,_,_,rfl⟩⟩⟩
 . exact⟨[(⟨[],0,ls,cs⟩,⟨Z M 0 0,Z bL ls ls,Z ac cs cc⟩)],rfl,b, λx a=>by rw[jU.1 a];exact⟨_,_,rfl,h.cc⟩⟩
end
end Go.Proofs.YtkgohaigebcgoaaGreatDoor
