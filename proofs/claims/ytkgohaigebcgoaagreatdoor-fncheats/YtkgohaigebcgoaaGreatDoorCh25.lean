import Derived.Test.YtkgohaigebcgoaaGreatDoorCh22
namespace Go.Proofs.YtkgohaigebcgoaaGreatDoor
open Go.ChangeShapes Go.WideShapes Go.ChangeAt Go.RowKit Go.Proofs.Tryz
set_option linter.unusedVariables false
open Go.Value renaming slice → Z
open Option renaming some → K,none → M
open Go renaming Value → J,World → Y,Calls → Ai
open Go.RowKit renaming Hid → Ae,Below → Ah
open Go.IntKind renaming i64 → Af
open Go.Obj renaming cells → Ak
open Go.Ending renaming returned → Am
open Go.Proofs.Tryz renaming prog → Aq
open Go.World renaming setCell → Aa,ownsRow → Ab,alloc → Ac
set_option maxHeartbeats 8000000
set_option maxRecDepth 100000
theorem Po (gb ob cb n:Nat)(E:Nat->List Nat)(w:Y)(hn:n<=1024)(h0:0<n)(hE:∀b,b<n->∀x∈E b,x<n)(cj:∀b,(E b).length<=2)(h:RZ w gb ob n E)(hI:∀b,b<n->∃f l:Int,w ⟨gb,ob+b*3,M⟩=K ↑f/\w ⟨gb,ob+b*3+1,M⟩=K ↑l):
 Ai Aq 23 #[sO gb ob n cb] w λe w'=>∃(G gN B m gO cO p:Nat) (S O:List Nat),e=Am (.pointer G)/\GM w w' n G gN B m gO cO p E S O:=by
 obtain⟨k0,hk,bj,bq,br⟩:=nE Ct;obtain⟨j0,hj,bt,bu,bx⟩:=nE SN;have H:=Aw (lN h (lN hE (lN cj hI)));clear h hE cj hI;go_enter func23,ntmps23;go_upto_region 2 with fail
 go_cut [4]from 13 (λs wx=>∃G m p,s=.pointer (K ⟨G,0,M⟩)/\Ae (sw w wx n G m p))
 case first=>
  obtain⟨wA,eA,oA,gA⟩:=run_make_full (P:=Aq) w.drew w 28 27 j0 sN 1 underlying28 hj bt bu Af Af n (by rw[bx];omega) oX lR;obtain⟨dF,du,bC,aT⟩:=run_make_full (P:=Aq) wA w 27 2 k0 (iZ 0) 1 underlying27 hk bj bq Af Af n (by rw[br];omega) oX gA.size;obtain⟨wB,eB,oB,gB⟩:=run_make_full (P:=Aq) w.drew w 27 2 k0 (iZ 0) 1 underlying27 hk bj bq Af Af n (by rw[br];omega) oX lR;obtain⟨dG,dv,bG,aW⟩:=run_make_full (P:=Aq) wB w 28 27 j0 sN 1 underlying28 hj bt bu Af Af n (by rw[bx];omega) oX gB.size;rw[H8]at oA bG;rw[Ze]at oB bC;have HA:=Aw (lN (AD oA (BS aT) lR) (lN bC (Ar (Ar (As w) lR (BS gA)) lR (BS aT))));have HB:=Aw (lN bG (lN (AD oB (BS aW) lR) (Ar (Ar (As w) lR (BS gB)) lR (BS aW))));clear oA bC oB bG gA aT gB aW;go_region
  . go_wp2;go_meet;exact⟨_,_,_,rfl,sw.of HA.1 HA.2.1 HA.2.2⟩
  go_wp2;go_meet;exact⟨_,_,_,rfl,sw.of HB.1 HB.2.1 HB.2.2⟩
 case rest =>
  obtain⟨G,m,p,rfl,R⟩:=hcut;obtain⟨Q,dj⟩:∃W,W=wc:=⟨_,rfl⟩;subst dj;have HW:=Aw R.cq.size;have bJ:Ae (NG w Q Q n G m (sG p n n) sN [] ((List.range n).map λx=>((sN:J),Bo E 0 x))):=by
   refine⟨R.eI,mX _ _ _ _,?_,⟨λx A=> ?_,?_⟩, λk _ _ _=>rfl,Nat.le_refl _,R.cq,⟨R.ge,R.eI.lt,?_⟩⟩
   . have:=R.iY;rw[ot];have e:(List.range n).map (Prod.fst ∘ λx=>((sN:J),Bo E 0 x))=List.replicate n sN:=by
      apply nj;intro j;by_cases hj:j<n
      . simp[hj]
      rw[mc oT,mc oT]
     rw[e];exact this
   . simp only[mV]at A;obtain⟨y,⟨z,_,rfl⟩,rfl⟩:=A;(have:ints (Bo E 0 z)=[]:=by simp[Bo,ints]);simp only[this];exact mX _ _ _ _
   . rw[ot];refine oj.2 (pC.imp λ_=> ?_);intro g hg;cases hg
   obtain⟨_,aS,h1⟩:=AZ R.iY;exact(mH.1 h1).1
  have aA:=Aw (lN R.jX (lN R.cq (lN ((λe=>Lx R.eI R.jX dC (by rw[e];rfl)):p≠G) ((λe=>rN R.jX R.iY dC e):p≠m))));clear R;go_wp2;go_loopw [21] (λi wr=>∃(b:Nat) (NV:J) (d:List J) (X:List (J×List Nat)),b<=n/\i=iZ b/\ ↑d=b/\ ↑X=n/\Ae (NG w Q wr n G m (sG p n n) NV d X/\(∀x,x<n->∃V,X[x]?=K (V,Bo E b x))/\(∀x,x<b->∃a c,d[x]?=K (Z a (E x).length c)/\Lb w (Z a (E x).length c) (E x)))) (λi _=>n-(intOf i).toNat)
  case atStart=>exact⟨0,_,[],_,oM,rfl,rfl,sP,bJ, λx A=>⟨sN,by simp[A]⟩, λx A=>oM⟩
  clear bJ;obtain⟨b,NV,d,X,hb,rfl,bZ,bT,I⟩:=hrel;have aj:=Aw bZ;have cQ:d.length<=1024:=oM;clear bZ;by_cases aZ:b<n
  . have db:(b:Int)<(n:Int):=oM;obtain⟨a,t,g0,g1⟩:=H.1 b aZ;obtain⟨ff,ll,i0,i1⟩:=H.2.2.2 b aZ;have bH:=Aw g1;(replace g0:=Az I.1.cq g0);(replace i0:=Az I.1.cq i0);(replace i1:=Az I.1.cq i1);have dw:=H.2.2.1 b;obtain⟨aN,B,eN⟩:=AF I.1.jg;subst eN;clear g1;(go_upto_region 6 with fail);refine Av (λu=>Ae (NG w Q u n G m (sG p n n) (Z aN d B) d X/\Ay u wr #[ff,ll,Z a (E b).length t] 97)) ⟨I.1.av (Al _ _),Ay.new _ _ _⟩ ?_
    intro U T;obtain⟨tb,cH⟩:∃tb,tb=wr.heap.size:=⟨_,rfl⟩;rw[<-cH]at T⊢;have dd: ↑d+1<=maxLen:=oX
    have cU:(d.length+1)*24<=140737488355328:=oM;clear cH g0 i0 i1;have bD:=As U;have bE:Ah U U (Ac U (Ak #[Z a (E b).length t] 27)).drew:=Ar (Al _ _) lR (As _);have x0:U.drew G=K (Z aN d B):=(T.1.eI.av bD).cell 0;have x1:(Ac U (Ak #[Z a (E b).length t] 27)).drew.cell? G=K (Z aN d B):=(T.1.eI.av bE).cell 0;have x2:U.drew ⟨tb,2,M⟩=K (Z a (E b).length t):=(T.2.av bD).cell 2;have aa:=Aw (lN (T.1.av bE) (T.2.av bE));(have aH:Ae (∀j u,[(Z a (E b).length t:J)][j]?=K u->(Ac U (Ak #[Z a (E b).length t] 27)).drew.cell? ((⟨U,0,M⟩:Addr).add j)=K u):= λj u hj=>by rw[Cq,m9];have:=(Ay.new U #[Z a (E b).length t] 27).cell j;exact this.trans (by simpa using hj));(have df:∀u∈[(Z a (E b).length t:J)],u.oneCell'=true:= λu hu=>by simp at hu;subst hu;rfl);have aG:Ae (∀D C w5,w5.ownsRow Q 27 1 (sG D (d.length+1) C) (d.length+1) (d++[Z a (E b).length t])->(Ac U (Ak #[Z a (E b).length t] 27)).drew.grownBy w5 (Z aN d B).ownBlock->Ay w5 G #[Z aN d B,sG m n n,sN,sG p n n,sN] 101/\NG w Q (w5.setCell G (sG D (d.length+1) C)) n G m (sG p n n) (sG D (d.length+1) C) (d++[Z a (E b).length t]) X/\Ay (w5.setCell G (sG D (d.length+1) C)) tb #[ff,ll,Z a (E b).length t] 97):= λD C w5 aq ai=>by obtain⟨q1,q2⟩:=aa.1.next HW aq ai;have k5:=aa.2.grown ai aa.1.jg dC;refine⟨q1,q2,k5.other (λe=> ?_) _⟩;simp only[]at e;unfold Ay at k5 q1;rw[e,q1]at k5;simp only[lX,nz]at k5;exact absurd k5.2.1 dC
    clear bD bE;go_cut [34]from 26 to 36 (λs wx=>∃D C,Ae (NG w Q wx n G m (sG p n n) (sG D (d.length+1) C) (d++[Z a (E b).length t]) X/\Ay wx tb #[ff,ll,Z a (E b).length t] 97))
    case first=>
     go_region_law (first
      |(refine step_append_lies _ rfl (.tmp 30) (.tmp 33) 28 rfl Q 27 j0 sN 1 24 underlying28 hj bt bu bx rfl dC (Z aN d B) d d oE aa.1.jg U 1 1 [Z a (E b).length t] oE rfl aH df Nat.one_pos dd cU aa.1.size _ rfl ?_;intro D C w5 aq ai aF bf;obtain⟨bB,l5,m5⟩:=aG.o D C w5 aq ai;have aI:Ae (NG w Q (w5.setCell G (sG D (d.length+1) C)) n G m (sG p n n) (sG D (d.length+1) C) (d++[Z a (E b).length t]) X/\Ay (w5.setCell G (sG D (d.length+1) C)) tb #[ff,ll,Z a (E b).length t] 97):=⟨l5,m5⟩;have t5:w5 G=K (Z aN d B):=bB.cell 0;have z5:=bB.frozen 0;clear aq ai aF bf bB l5 m5))
     all_goals
      go_wp2;go_meet;exact⟨D,C,aI⟩
    case rest=>
     obtain⟨D,C,aI⟩:=hcut;clear x0 x1 x2 aa aH aG T;have t2:wc ⟨tb,2,M⟩=K (Z a (E b).length t):=aI.2.cell 2;go_wp2;go_loopw [40] (λi wr=>∃(k:Nat) (X:List (J×List Nat)),k<=(E b).length/\i=iZ k/\ ↑X=n/\Ae (NG w Q wr n G m (sG p n n) (sG D (d.length+1) C) (d++[Z a (E b).length t]) X/\(∀x,x<n->∃V,X[x]?=K (V,Bo E b x++Fr E b k x)))) (λi _=>(E b).length-(intOf i).toNat)
     (case atStart=>exact⟨0,X,oM,rfl,bT,aI.1, λx A=>by obtain⟨V,hV⟩:=I.2.1 x A;exact⟨V,by rw[SD,nm];exact hV⟩⟩);clear aI t2;obtain⟨k,FT,cY,rfl,bV,HM⟩:=hrel;by_cases d8:k<(E b).length
     . have dA:(k:Int)<((E b).length:Int):=oM;obtain⟨y,hy⟩:∃y,(E b)[k]?=K y:=⟨_,an d8⟩;have dq:y<n:=H.2.1 b aZ y (lP hy);have dE:(y:Int)<(n:Int):=oM;have HY:=Aw hy;obtain⟨ga,oa,rfl,_,y0⟩:=bH.at_ hy;have dt:=Aw y0;(replace y0:=Az HM.1.cq y0);obtain⟨V,hV⟩:=HM.2 y dq;obtain⟨aV,cV,eV⟩:=AF (HM.1.fg.own (V,ints (Bo E b y++Fr E b k y)) (mV.2 ⟨(V,_),lP hV,rfl⟩));simp only[A4]at eV;subst eV;(have cZ:(Bo E b y++Fr E b k y).length<=4096:=by have h1:=JS H.2.2.1 b y;have h2:=N7 E b k y;rw[mB];omega);generalize bY:Bo E b y++Fr E b k y=r at hV cZ;have aK:=Aw (lN bY hV);clear hy hV bY;(go_upto_region 10 with fail);have bI:=Aw HM.1;refine Av (λu=>Ae (NG w Q u n G m (sG p n n) (sG D (d.length+1) C) (d++[sO ga oa (E b).length t]) FT)) bI ?_;intro U T;clear y0 bI;have de: ↑r+1<=maxLen:=oX
       have cW:(r.length+1)*8<=140737488355328:=oM;have bD:=As U;have bE:Ah U U (Ac U (Ak #[(b:Int)] 2)).drew:=Ar (Al _ _) lR (As _);have x0:U.drew ⟨G,1,M⟩=K (sG m n n):=(T.eI.av bD).cell 1;have x1:(Ac U (Ak #[(b:Int)] 2)).drew.cell? ⟨G,1,M⟩=K (sG m n n):=(T.eI.av bE).cell 1;(have aJ:Ae (∀(u':Y),Ab u' w 27 1 (sG m n n) n (FT.map Prod.fst)->u' ⟨m,y,M⟩=K (Z aV r cV)):= λu' dh=>by have:=dh.cellAt y oM;rw[mN,aK.2]at this;exact this);have x2:=aJ.o _ (T.av bD).iY;have x3:=aJ.o _ (T.av bE).iY;have aa:=Aw (T.av bE);(have aR:Ae ((Ac U (Ak #[(b:Int)] 2)).drew.ownsRow Q 2 1 (Z aV r cV) r (nv r)):=by have:=aa.fg.own (Z aV r cV,ints r) (mV.2 ⟨(_,r),lP aK.2,rfl⟩);rw[A4,<-Er]at this;exact this);have aH:=Aw (Fw U (b:Int));(have dg:∀u∈[(iZ (b:Int):J)],u.oneCell'=true:= λu hu=>by simp at hu;subst hu;rfl);have aG:Ae (∀g6 ae w6,w6.ownsRow Q 2 1 (sG g6 (r.length+1) ae) (r.length+1) (nv r++[iZ (b:Int)])->(Ac U (Ak #[iZ (b:Int)] 2)).drew.grownBy w6 (Z aV r cV).ownBlock->((Z aV r cV).ownBlock=K g6\/g6=(Ac U (Ak #[iZ (b:Int)] 2)).drew.heap.size)->w6.cell? ⟨G,1,M⟩=K (sG m n n)/\w6.cell? ⟨m,y,M⟩=K (Z aV r cV)/\w6.frozen? ⟨m,y,M⟩=false/\NG w Q (w6.setCell ⟨m,y,M⟩ (sG g6 (r.length+1) ae)) n G m (sG p n n) (sG D (d.length+1) C) (d++[sO ga oa (E b).length t]) (FT.set y (sG g6 (r.length+1) ae,r++[b]))):= λg6 ae w6 aq ai aF=>by obtain⟨q1,q2⟩:=aa.jt HW aK.2 aq ai aF;exact⟨(aa.eI.grown ai aR dC).cell 1,aJ.o _ q1,q1.frozenAt y,q2⟩
       clear bD bE;go_wp2_with fail;go_region_law (first
        |(refine step_append_lies _ rfl (.tmp 55) (.tmp 57) 27 rfl Q 2 k0 (iZ 0) 1 8 underlying27 hk bj bq br rfl dC (Z aV r cV) r (nv r) oE aR U 1 1 [(b:Int)] oE rfl aH dg Nat.one_pos de cW aa.size _ rfl ?_;intro g6 ae w6 aq ai aF bf;obtain⟨t6,t7,z6,l6⟩:=aG.o g6 ae w6 aq ai aF;have aO:Ae (NG w Q (w6.setCell ⟨m,y,M⟩ (sG g6 (r.length+1) ae)) n G m (sG p n n) (sG D (d.length+1) C) (d++[sO ga oa (E b).length t]) (FT.set y (sG g6 (r.length+1) ae,r++[b]))):=l6;clear aq ai aF bf l6))
       all_goals
        have cK:Ae (∀x,x<n->∃V,(FT.set y (sG g6 (r.length+1) ae,r++[b]))[x]?=K (V,Bo E b x++Fr E b (k+1) x)):= λx A=>by
         rw[SC HY x];by_cases e:x=y
         . subst e;refine⟨sG g6 (r.length+1) ae,?_⟩;rw[mE rfl,<-nD,aK.1,nK oM]
         rw[lY e,ni (Ne.symm e)];exact HM.2 x A
        clear x0 x1 x2 x3 aa aR aH aG T aJ;go_wp2;go_roundw;(case rel=>exact⟨k+1,FT.set y (sG g6 (r.length+1) ae,r++[b]),oM,by go_num,by rw[mF];exact bV,aO,cK⟩);exact oI
     obtain rfl:k=(E b).length:=oM;have bP:Ae ((∀x,x<n->∃V,FT[x]?=K (V,Bo E (b+1) x))/\(∀x,x<b+1->∃a' c,(d++[Z a (E b).length t])[x]?=K (Z a' (E x).length c)/\Lb w (Z a' (E x).length c) (E x))):=by
      refine⟨λx A=>by rw[LW];exact HM.2 x A, λx A=> ?_⟩;by_cases e:x<b
      . obtain⟨a',c',q1,q2⟩:=I.2.2 x e;exact⟨a',c',by rw[mq (by rw[aj];exact e)];exact q1,q2⟩
      have:x=b:=oM;subst this;refine⟨a,t,?_,bH⟩;rw[mg (by rw[aj];exact Nat.le_refl _),aj.o,pG];rfl
     go_wp2;go_roundw;(case rel=>exact⟨b+1,_,d++[Z a (E b).length t],FT,oM,by go_num,by rw[mB,mT,aj],bV,HM.1,bP.1,bP.2⟩);exact oI
  have cM:b=n:=oM;have db:¬(b:Int)<(n:Int):=oM;rw[cM]at I aj;go_upto_region 13 with fail
  obtain⟨F,di⟩:∃W,W=wr:=⟨_,rfl⟩;subst di;obtain⟨gN,B,eN⟩:∃g c,NV=sG g n c:=by
   rcases Bf I.1.jg with⟨_,q⟩|⟨g,c,q⟩
   . rw[aj]at q;omega
   rw[aj]at q;exact⟨g,c,q⟩
  subst eN;have au:=Aw (Xy I.1 aj bT I.2.1 I.2.2 aA.1 aA.2.2.1 aA.2.2.2);have L:Ae (Ay F G #[sG gN n B,sG m n n,sN,sG p n n,sN] 101/\Ab F w 2 1 (sG p n n) n (iv (λ_=>0) n)/\Ah w w F/\ ↑w<=G/\p< ↑F):=by (have hp:Ab F w 2 1 (sG p n n) n (iv (λ_=>0) n):=by have h0:=aA.1;refine⟨h0.1,h0.2.imp id ?_⟩;rintro⟨g',c',aS,e1,e2,e3,e4⟩;refine⟨g',c',aS,e1,e2,?_,e4⟩;(cases e1);rw[I.1.fx p (mH.1 e3).1 aA.2.2.1 aA.2.2.2];exact e3);refine⟨I.1.eI,hp,I.1.cq,I.1.lt.1,?_⟩;obtain⟨_,aS,h1⟩:=AZ hp;exact(mH.1 h1).1
  clear I aA aj cQ;have bA:=Al F (Ak #[iZ 0] 2);have x0:F G=K (sG gN n B):=L.1.cell 0;have x1:(Ac F (Ak #[iZ 0] 2)) G=K (sG gN n B):=(L.1.av bA).cell 0;have bS:Ae (Lb (Ac F (Ak #[iZ 0] 2)) (sG F 1 1) [0]):=by refine⟨rfl,.inr ⟨F,0,1,rfl, λj v hj=> ?_⟩⟩;rw[m9,(Ay.new F #[iZ 0] 2).cell j];simpa[nv]using hj
  go_wp2_with fail;refine(IB gN 0 B n E _ [0] _ [] _ hn H.2.1 (λb=>by have:=H.2.2.1 b;omega) (au.1.av bA) (λx A=>by simp at A;omega) sP bS (.inl ⟨rfl,rfl⟩)).mono ?_;rintro e u5 ⟨V,S,O,rfl,bi,bg,b5⟩;obtain⟨N,tN⟩:=bi.told;have cR:O=N:=by simpa using tN.o
  subst cR;have aX:0∈O:=by
   have:=tN.todo 0 sP;rcases(tN.seen 0).1 this with q|q
   . cases q
   exact q
  have dz: ↑O<=n:=by have:=Hv O n (λx A=>by obtain⟨q,q1,q2⟩:=tN.from_ x A;(have:q=0:=by simpa using q1);subst this;exact q2.lt H.2.1 h0) tN.nodup;omega
  have dy:0<O.length:=pU.2 (λq=>by rw[q]at aX;cases aX);have aM:Ae (O.Nodup/\(∀x∈O,x<n)/\Vs E [] [] [0] S O):=⟨tN.nodup, λx A=>by obtain⟨q,q1,q2⟩:=tN.from_ x A;(have:q=0:=by simpa using q1);subst this;exact q2.lt H.2.1 h0,bi⟩
  obtain⟨gO,cO,eO⟩:∃g c,V=sG g O c:=by
   rcases Bf bg with⟨_,q⟩|⟨g,c,q⟩
   . omega
   exact⟨g,c,q⟩
  subst eO;have aY:Ah F F u5:=Ar bA lR b5;have ax:=Aw (lN (BG bg bA.size) aY);have kG:=L.1.av aY;have d2:u5 ⟨G,2,M⟩=K sN:=kG.cell 2;have z2:=kG.frozen 2;clear tN bi bg b5 bA x0 x1 bS aY kG aX;go_upto_region 14 with fail
  have cX:=(AZ ax.1).1;have aO:Ae (qs w F (Aa u5 ⟨G,2,M⟩ (sG gO O cO)) n G gN B m gO cO p O):=by
   have dx:=L.1.lt;refine⟨?_,mR ax.1 (a:=⟨G,2,M⟩) (by simp[Value.ownBlock];omega) _,?_, λk hk h1 h2=> ?_,?_,?_⟩
   . have:=(L.1.av ax.2).set 2 (sG gO O cO);simpa using this
   . exact mR (AD L.2.1 ax.2 lR) (a:=⟨G,2,M⟩) (by simp[Value.ownBlock];exact au.2.2.1.2.2.1) _
   . rw[oJ u5 _ k _ h1];exact ax.2.block k hk
   . rw[oN];exact ax.2.size
   exact(Ar L.2.2.1 lR ax.2).setCell L.2.2.2.1 _
  refine Av (λu=>Ae (qs w F u n G gN B m gO cO p O)) aO ?_;intro U6 aQ;clear aO d2 z2 ax;have o2:U6 ⟨G,2,M⟩=K (sG gO O cO):=aQ.eI.cell 2;go_wp2_with fail;refine(Rq gO cO F O U6 oM aQ.ord).mono ?_;rintro e u7 ⟨rfl,ce,g7⟩;have aE:Ae (qs w F u7 n G gN B m gO cO p O.reverse/\O.reverse.length= ↑O):=⟨aQ.rev cX L.1.lt L.2.2.2.2 L.2.2.1.size ce g7,nP⟩
  clear ce g7 aQ o2;have HR:Ae (∀k x:Nat,O.reverse[k]?=K x->u7 ⟨gO,k,M⟩=K ↑(x:Int)):= λk x A=>by obtain⟨_,_,ee,_,q⟩:=aE.1.ord.rd.at_ A;simp only[lX,ny,oZ]at ee;obtain⟨rfl,rfl⟩:=ee;rw[m9]at q;exact q
  have o2:u7 ⟨G,2,M⟩=K (sG gO O cO):=by have:=aE.1.eI.cell 2;rw[aE.2]at this;exact this
  have cT:gO≠p:=by have:=L.2.2.2.2;omega
  have bQ:Ae (Z6 w u7 u7 n p O 0):=⟨by rw[Vu];exact aE.1.jX, λ_ _ _=>rfl,aE.1.cq⟩;go_wp2;go_loopw [81] (λi wr=>∃k:Nat,k<= ↑O/\i=iZ k/\Ae (Z6 w u7 wr n p O k)) (λi _=> ↑O-(intOf i).toNat)
  case atStart=>exact⟨0,oM,rfl,bQ⟩
  clear bQ o2;obtain⟨k,cY,rfl,HM⟩:=hrel;by_cases d9:k< ↑O
  . have dB:(k:Int)<(O:Int):=oM;obtain⟨x,A⟩:∃x,O.reverse[k]?=K x:=⟨_,an (by rw[nP];exact d9)⟩;have dm:x<n:=aM.2.1 x (nL.1 (lP A));have dD:(x:Int)<(n:Int):=oM;have y0:=HM.cell (HR.o k x A) cT;have p3:wr ⟨G,3,M⟩=K (sG p n n):=HM.cell (aE.1.eI.cell 3) (Ne.symm au.2.2.1.2.2.1);have c3:=HM.row.cellAt x oM;rw[TK _ _ _ dm]at c3;have z3:=HM.row.frozenAt x;have cJ:=Aw (HM.set aM.1 A);clear A;go_wp2;go_roundw;(case rel=>exact⟨k+1,oM,by go_num,cJ⟩);exact oI
  obtain rfl:k=O.length:=oM;have cI:=Aw (ro aE.1 HM aM.2.2 aM.2.1 L.2.2.2.1 L.1.lt L.2.2.2.2 L.2.2.1.size au.1 au.2.1 au.2.2.1 au.2.2.2.1 au.2.2.2.2);go_wp2;go_ret;exact⟨G,gN,B,m,gO,cO,p,S,O,rfl,cI⟩
end Go.Proofs.YtkgohaigebcgoaaGreatDoor
