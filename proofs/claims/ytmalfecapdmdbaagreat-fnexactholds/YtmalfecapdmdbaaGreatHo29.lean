import Derived.Test.YtmalfecapdmdbaaGreatHo26
namespace Go.Proofs.YtmalfecapdmdbaaGreat
open Go.ChangeShapes Go.WideShapes Go.ChangeAt Go.RowKit Go.Proofs.Tryz
set_option linter.unusedVariables false
open Go.Value renaming slice → Z
open Option renaming some → K,none → M
open Go renaming Value → J,World → Y,Calls → Ai
open Go.RowKit renaming Hid → Ae,Below → Ah
open Go.IntKind renaming i64 → Af
open Go.Obj renaming cells → Ak
open Go.Ending renaming returned → Al
open Go.Proofs.Tryz renaming prog → Ap
open Go.World renaming setCell → Aa,ownsRow → Ab,alloc → Ac
set_option maxHeartbeats 8000000
set_option maxRecDepth 100000
theorem Oh (gb ob cb n:Nat)(E:Nat->List Nat)(w:Y)(hn:n<=1024)(h0:0<n)(hE:∀b,b<n->∀x∈E b,x<n)(bQ:∀b,(E b).length<=2)(h:Km w gb ob n E)(hI:∀b,b<n->∃f l:Int,w ⟨gb,ob+b*3,M⟩=K ↑f/\w ⟨gb,ob+b*3+1,M⟩=K ↑l):
 Ai Ap 105 #[sO gb ob n cb] w λe w'=>∃(G gN B m gO cO p:Nat) (S O:List Nat),e=Al (.pointer G)/\GM w w' n G gN B m gO cO p E S O:=by
 obtain⟨k0,hk,bg,bi,bj⟩:=lS Bp;obtain⟨j0,hj,bo,bp,bq⟩:=lS Uf;have H:=Av (d5 h (d5 hE (d5 bQ hI)));clear h hE bQ hI;go_enter func105,ntmps105;go_upto_region 2 with fail
 go_cut [4]from 13 (λs wx=>∃G m p,s=.pointer (K ⟨G,0,M⟩)/\Ae (XM w wx n G m p))
 case first=>
  obtain⟨wA,eA,oA,gA⟩:=run_make_full (P:=Ap) w.drew w 22 46 j0 sN 1 underlying22 hj bo bp Af Af n (by rw[bq];omega) oX lR;obtain⟨di,d6,bt,aT⟩:=run_make_full (P:=Ap) wA w 46 2 k0 (iZ 0) 1 underlying46 hk bg bi Af Af n (by rw[bj];omega) oX gA.size;obtain⟨wB,eB,oB,gB⟩:=run_make_full (P:=Ap) w.drew w 46 2 k0 (iZ 0) 1 underlying46 hk bg bi Af Af n (by rw[bj];omega) oX lR;obtain⟨dj,d7,bu,aU⟩:=run_make_full (P:=Ap) wB w 22 46 j0 sN 1 underlying22 hj bo bp Af Af n (by rw[bq];omega) oX gB.size;rw[Nc]at oA bu;rw[Sm]at oB bt;have HA:=Av (d5 (Aw oA (Cn aT) lR) (d5 bt (Ar (Ar (At w) lR (Cn gA)) lR (Cn aT))));have HB:=Av (d5 bu (d5 (Aw oB (Cn aU) lR) (Ar (Ar (At w) lR (Cn gB)) lR (Cn aU))));clear oA bt oB bu gA aT gB aU;go_region
  . go_wp2;go_meet;exact⟨_,_,_,rfl,XM.of HA.1 HA.2.1 HA.2.2⟩
  go_wp2;go_meet;exact⟨_,_,_,rfl,XM.of HB.1 HB.2.1 HB.2.2⟩
 case rest =>
  obtain⟨G,m,p,rfl,R⟩:=hcut;obtain⟨Q,cW⟩:∃W,W=wc:=⟨_,rfl⟩;subst cW;have HW:=Av R.e8.size;have bC:Ae (NG w Q Q n G m (sG p n n) sN [] ((List.range n).map λx=>((sN:J),Bs E 0 x))):=by
   refine⟨R.gK,lQ _ _ _ _,?_,⟨λx A=> ?_,?_⟩, λk _ _ _=>rfl,Nat.le_refl _,R.e8,⟨R.ge,R.gK.lt,?_⟩⟩
   . have:=R.io;rw[nE];have e:(List.range n).map (Prod.fst ∘ λx=>((sN:J),Bs E 0 x))=List.replicate n sN:=by
      apply mP;intro j;by_cases hj:j<n
      . simp[hj]
      rw[kW oT,kW oT]
     rw[e];exact this
   . simp only[lA]at A;obtain⟨y,⟨z,_,rfl⟩,rfl⟩:=A;(have:ints (Bs E 0 z)=[]:=by simp[Bs,ints]);simp only[this];exact lQ _ _ _ _
   . rw[nE];refine mu.2 (nT.imp λ_=> ?_);intro g hg;cases hg
   obtain⟨_,aS,h1⟩:=AD R.io;exact(kM.1 h1).1
  have aw:=Av (d5 R.jt (d5 R.e8 (d5 ((λe=>FO R.gK R.jt dC (by rw[e];rfl)):p≠G) ((λe=>Oo R.jt R.io dC e):p≠m))));clear R;go_wp2;go_loopw [21] (λi wr=>∃(b:Nat) (NV:J) (d:List J) (FS:List (J×List Nat)),b<=n/\i=iZ b/\ ↑d=b/\ ↑FS=n/\Ae (NG w Q wr n G m (sG p n n) NV d FS/\(∀x,x<n->∃V,FS[x]?=K (V,Bs E b x))/\(∀x,x<b->∃a c,d[x]?=K (Z a (E x).length c)/\I5 w (Z a (E x).length c) (E x)))) (λi _=>n-(intOf i).toNat)
  case atStart=>exact⟨0,_,[],_,oM,rfl,rfl,sP,bC, λx A=>⟨sN,by simp[A]⟩, λx A=>oM⟩
  clear bC;obtain⟨b,NV,d,FS,hb,rfl,bL,bI,I⟩:=hrel;have am:=Av bL;have bZ:d.length<=1024:=oM;clear bL;by_cases aY:b<n
  . have cI:(b:Int)<(n:Int):=oM;obtain⟨a,t,g0,g1⟩:=H.1 b aY;obtain⟨ff,ll,i0,i1⟩:=H.2.2.2 b aY;have bx:=Av g1;(replace g0:=Au I.1.e8 g0);(replace i0:=Au I.1.e8 i0);(replace i1:=Au I.1.e8 i1);have d8:=H.2.2.1 b;obtain⟨aN,B,eN⟩:=AO I.1.iA;subst eN;clear g1;(go_upto_region 6 with fail);refine Ax (λu=>Ae (NG w Q u n G m (sG p n n) (Z aN d B) d FS/\AC u wr #[ff,ll,Z a (E b).length t] 126)) ⟨I.1.a7 (Aq _ _),AC.new _ _ _⟩ ?_
    intro U X;obtain⟨tb,bR⟩:∃tb,tb=wr.heap.size:=⟨_,rfl⟩;rw[<-bR]at X⊢;have cJ: ↑d+1<=maxLen:=oX
    have cj:(d.length+1)*24<=140737488355328:=oM;clear bR g0 i0 i1;have bD:=At U;have bE:Ah U U (Ac U (Ak #[Z a (E b).length t] 46)).drew:=Ar (Aq _ _) lR (At _);have x0:U.drew G=K (Z aN d B):=(X.1.gK.a7 bD).cell 0;have x1:(Ac U (Ak #[Z a (E b).length t] 46)).drew.cell? G=K (Z aN d B):=(X.1.gK.a7 bE).cell 0;have x2:U.drew ⟨tb,2,M⟩=K (Z a (E b).length t):=(X.2.a7 bD).cell 2;have ae:=Av (d5 (X.1.a7 bE) (X.2.a7 bE));(have aG:Ae (∀j u,[(Z a (E b).length t:J)][j]?=K u->(Ac U (Ak #[Z a (E b).length t] 46)).drew.cell? ((⟨U,0,M⟩:Addr).add j)=K u):= λj u hj=>by rw[Dk,lM];have:=(AC.new U #[Z a (E b).length t] 46).cell j;exact this.trans (by simpa using hj));(have cQ:∀u∈[(Z a (E b).length t:J)],u.oneCell'=true:= λu hu=>by simp at hu;subst hu;rfl);have aF:Ae (∀D C w5,w5.ownsRow Q 46 1 (sG D (d.length+1) C) (d.length+1) (d++[Z a (E b).length t])->(Ac U (Ak #[Z a (E b).length t] 46)).drew.grownBy w5 (Z aN d B).ownBlock->AC w5 G #[Z aN d B,sG m n n,sN,sG p n n,sN] 191/\NG w Q (w5.setCell G (sG D (d.length+1) C)) n G m (sG p n n) (sG D (d.length+1) C) (d++[Z a (E b).length t]) FS/\AC (w5.setCell G (sG D (d.length+1) C)) tb #[ff,ll,Z a (E b).length t] 126):= λD C w5 ao aj=>by obtain⟨q1,q2⟩:=ae.1.next HW ao aj;have k5:=ae.2.grown aj ae.1.iA dC;refine⟨q1,q2,k5.other (λe=> ?_) _⟩;simp only[]at e;unfold AC at k5 q1;rw[e,q1]at k5;simp only[kI,mg]at k5;exact absurd k5.2.1 dC
    clear bD bE;go_cut [34]from 26 to 36 (λs wx=>∃D C,Ae (NG w Q wx n G m (sG p n n) (sG D (d.length+1) C) (d++[Z a (E b).length t]) FS/\AC wx tb #[ff,ll,Z a (E b).length t] 126))
    case first=>
     go_region_law (first
      |(refine step_append_lies _ rfl (.tmp 30) (.tmp 33) 22 rfl Q 46 j0 sN 1 24 underlying22 hj bo bp bq rfl dC (Z aN d B) d d oE ae.1.iA U 1 1 [Z a (E b).length t] oE rfl aG cQ Nat.one_pos cJ cj ae.1.size _ rfl ?_;intro D C w5 ao aj aE aZ;obtain⟨br,l5,m5⟩:=aF.o D C w5 ao aj;have aH:Ae (NG w Q (w5.setCell G (sG D (d.length+1) C)) n G m (sG p n n) (sG D (d.length+1) C) (d++[Z a (E b).length t]) FS/\AC (w5.setCell G (sG D (d.length+1) C)) tb #[ff,ll,Z a (E b).length t] 126):=⟨l5,m5⟩;have t5:w5 G=K (Z aN d B):=br.cell 0;have z5:=br.frozen 0;clear ao aj aE aZ br l5 m5))
     all_goals
      go_wp2;go_meet;exact⟨D,C,aH⟩
    case rest=>
     obtain⟨D,C,aH⟩:=hcut;clear x0 x1 x2 ae aG aF X;have t2:wc ⟨tb,2,M⟩=K (Z a (E b).length t):=aH.2.cell 2;go_wp2;go_loopw [40] (λi wr=>∃(k:Nat) (FS:List (J×List Nat)),k<=(E b).length/\i=iZ k/\ ↑FS=n/\Ae (NG w Q wr n G m (sG p n n) (sG D (d.length+1) C) (d++[Z a (E b).length t]) FS/\(∀x,x<n->∃V,FS[x]?=K (V,Bs E b x++Fq E b k x)))) (λi _=>(E b).length-(intOf i).toNat)
     (case atStart=>exact⟨0,FS,oM,rfl,bI,aH.1, λx A=>by obtain⟨V,hV⟩:=I.2.1 x A;exact⟨V,by rw[Ra,m6];exact hV⟩⟩);clear aH t2;obtain⟨k,FT,cA,rfl,bJ,T⟩:=hrel;by_cases cG:k<(E b).length
     . have de:(k:Int)<((E b).length:Int):=oM;obtain⟨y,hy⟩:∃y,(E b)[k]?=K y:=⟨_,an cG⟩;have cY:y<n:=H.2.1 b aY y (i7 hy);have dh:(y:Int)<(n:Int):=oM;have HY:=Av hy;obtain⟨ga,oa,rfl,_,y0⟩:=bx.at_ hy;have cZ:=Av y0;(replace y0:=Au T.1.e8 y0);obtain⟨V,hV⟩:=T.2 y cY;obtain⟨aV,cV,eV⟩:=AO (T.1.gV.own (V,ints (Bs E b y++Fq E b k y)) (lA.2 ⟨(V,_),i7 hV,rfl⟩));simp only[AZ]at eV;subst eV;(have cE:(Bs E b y++Fq E b k y).length<=4096:=by have h1:=JF H.2.2.1 b y;have h2:=M5 E b k y;rw[kE];omega);generalize bK:Bs E b y++Fq E b k y=r at hV cE;have aJ:=Av (d5 bK hV);clear hy hV bK;(go_upto_region 10 with fail);have bB:=Av T.1;refine Ax (λu=>Ae (NG w Q u n G m (sG p n n) (sG D (d.length+1) C) (d++[sO ga oa (E b).length t]) FT)) bB ?_;intro U X;clear y0 bB;have cM: ↑r+1<=maxLen:=oX
       have cu:(r.length+1)*8<=140737488355328:=oM;have bD:=At U;have bE:Ah U U (Ac U (Ak #[(b:Int)] 2)).drew:=Ar (Aq _ _) lR (At _);have x0:U.drew ⟨G,1,M⟩=K (sG m n n):=(X.gK.a7 bD).cell 1;have x1:(Ac U (Ak #[(b:Int)] 2)).drew.cell? ⟨G,1,M⟩=K (sG m n n):=(X.gK.a7 bE).cell 1;(have aI:Ae (∀(u':Y),Ab u' w 46 1 (sG m n n) n (FT.map Prod.fst)->u' ⟨m,y,M⟩=K (Z aV r cV)):= λu' cT=>by have:=cT.cellAt y oM;rw[lE,aJ.2]at this;exact this);have x2:=aI.o _ (X.a7 bD).io;have x3:=aI.o _ (X.a7 bE).io;have ae:=Av (X.a7 bE);(have aR:Ae ((Ac U (Ak #[(b:Int)] 2)).drew.ownsRow Q 2 1 (Z aV r cV) r (nv r)):=by have:=ae.gV.own (Z aV r cV,ints r) (lA.2 ⟨(_,r),i7 aJ.2,rfl⟩);rw[AZ,<-C7]at this;exact this);have aG:=Av (Bw U (b:Int));(have cR:∀u∈[(iZ (b:Int):J)],u.oneCell'=true:= λu hu=>by simp at hu;subst hu;rfl);have aF:Ae (∀g6 ah w6,w6.ownsRow Q 2 1 (sG g6 (r.length+1) ah) (r.length+1) (nv r++[iZ (b:Int)])->(Ac U (Ak #[iZ (b:Int)] 2)).drew.grownBy w6 (Z aV r cV).ownBlock->((Z aV r cV).ownBlock=K g6\/g6=(Ac U (Ak #[iZ (b:Int)] 2)).drew.heap.size)->w6.cell? ⟨G,1,M⟩=K (sG m n n)/\w6.cell? ⟨m,y,M⟩=K (Z aV r cV)/\w6.frozen? ⟨m,y,M⟩=false/\NG w Q (w6.setCell ⟨m,y,M⟩ (sG g6 (r.length+1) ah)) n G m (sG p n n) (sG D (d.length+1) C) (d++[sO ga oa (E b).length t]) (FT.set y (sG g6 (r.length+1) ah,r++[b]))):= λg6 ah w6 ao aj aE=>by obtain⟨q1,q2⟩:=ae.gX HW aJ.2 ao aj aE;exact⟨(ae.gK.grown aj aR dC).cell 1,aI.o _ q1,q1.frozenAt y,q2⟩
       clear bD bE;go_wp2_with fail;go_region_law (first
        |(refine step_append_lies _ rfl (.tmp 55) (.tmp 57) 46 rfl Q 2 k0 (iZ 0) 1 8 underlying46 hk bg bi bj rfl dC (Z aV r cV) r (nv r) oE aR U 1 1 [(b:Int)] oE rfl aG cR Nat.one_pos cM cu ae.size _ rfl ?_;intro g6 ah w6 ao aj aE aZ;obtain⟨t6,t7,z6,l6⟩:=aF.o g6 ah w6 ao aj aE;have aP:Ae (NG w Q (w6.setCell ⟨m,y,M⟩ (sG g6 (r.length+1) ah)) n G m (sG p n n) (sG D (d.length+1) C) (d++[sO ga oa (E b).length t]) (FT.set y (sG g6 (r.length+1) ah,r++[b]))):=l6;clear ao aj aE aZ l6))
       all_goals
        have bV:Ae (∀x,x<n->∃V,(FT.set y (sG g6 (r.length+1) ah,r++[b]))[x]?=K (V,Bs E b x++Fq E b (k+1) x)):= λx A=>by
         rw[Q9 HY x];by_cases e:x=y
         . subst e;refine⟨sG g6 (r.length+1) ah,?_⟩;rw[kZ rfl,<-mm,aJ.1,mZ oM]
         rw[kP e,mr (Ne.symm e)];exact T.2 x A
        clear x0 x1 x2 x3 ae aR aG aF X aI;go_wp2;go_roundw;(case rel=>exact⟨k+1,FT.set y (sG g6 (r.length+1) ah,r++[b]),oM,by go_num,by rw[mG];exact bJ,aP,bV⟩);exact oI
     obtain rfl:k=(E b).length:=oM;have bF:Ae ((∀x,x<n->∃V,FT[x]?=K (V,Bs E (b+1) x))/\(∀x,x<b+1->∃a' c,(d++[Z a (E b).length t])[x]?=K (Z a' (E x).length c)/\I5 w (Z a' (E x).length c) (E x))):=by
      refine⟨λx A=>by rw[Ld];exact T.2 x A, λx A=> ?_⟩;by_cases e:x<b
      . obtain⟨a',c',q1,q2⟩:=I.2.2 x e;exact⟨a',c',by rw[lO (by rw[am];exact e)];exact q1,q2⟩
      have:x=b:=oM;subst this;refine⟨a,t,?_,bx⟩;rw[kT (by rw[am];exact Nat.le_refl _),am.o,mU];rfl
     go_wp2;go_roundw;(case rel=>exact⟨b+1,_,d++[Z a (E b).length t],FT,oM,by go_num,by rw[kE,kK,am],bJ,T.1,bF.1,bF.2⟩);exact oI
  have bY:b=n:=oM;have cI:¬(b:Int)<(n:Int):=oM;rw[bY]at I am;go_upto_region 13 with fail
  obtain⟨F,cU⟩:∃W,W=wr:=⟨_,rfl⟩;subst cU;obtain⟨gN,B,eN⟩:∃g c,NV=sG g n c:=by
   rcases BU I.1.iA with⟨_,q⟩|⟨g,c,q⟩
   . rw[am]at q;omega
   rw[am]at q;exact⟨g,c,q⟩
  subst eN;have aq:=Av (Uv I.1 am bI I.2.1 I.2.2 aw.1 aw.2.2.1 aw.2.2.2);have L:Ae (AC F G #[sG gN n B,sG m n n,sN,sG p n n,sN] 191/\Ab F w 2 1 (sG p n n) n (iv (λ_=>0) n)/\Ah w w F/\ ↑w<=G/\p< ↑F):=by (have hp:Ab F w 2 1 (sG p n n) n (iv (λ_=>0) n):=by have h0:=aw.1;refine⟨h0.1,h0.2.imp id ?_⟩;rintro⟨g',c',aS,e1,e2,e3,e4⟩;refine⟨g',c',aS,e1,e2,?_,e4⟩;(cases e1);rw[I.1.fx p (kM.1 e3).1 aw.2.2.1 aw.2.2.2];exact e3);refine⟨I.1.gK,hp,I.1.e8,I.1.lt.1,?_⟩;obtain⟨_,aS,h1⟩:=AD hp;exact(kM.1 h1).1
  clear I aw am bZ;have bA:=Aq F (Ak #[iZ 0] 2);have x0:F G=K (sG gN n B):=L.1.cell 0;have x1:(Ac F (Ak #[iZ 0] 2)) G=K (sG gN n B):=(L.1.a7 bA).cell 0;have bH:Ae (I5 (Ac F (Ak #[iZ 0] 2)) (sG F 1 1) [0]):=by refine⟨rfl,.inr ⟨F,0,1,rfl, λj v hj=> ?_⟩⟩;rw[lM,(AC.new F #[iZ 0] 2).cell j];simpa[nv]using hj
  go_wp2_with fail;refine(Iu gN 0 B n E _ [0] _ [] _ hn H.2.1 (λb=>by have:=H.2.2.1 b;omega) (aq.1.a7 bA) (λx A=>by simp at A;omega) sP bH (.inl ⟨rfl,rfl⟩)).mono ?_;rintro e u5 ⟨V,S,O,rfl,bf,b7,b5⟩;obtain⟨N,tN⟩:=bf.told;have ce:O=N:=by simpa using tN.o
  subst ce;have aW:0∈O:=by
   have:=tN.todo 0 sP;rcases(tN.seen 0).1 this with q|q
   . cases q
   exact q
  have dd: ↑O<=n:=by have:=Fv O n (λx A=>by obtain⟨q,q1,q2⟩:=tN.from_ x A;(have:q=0:=by simpa using q1);subst this;exact q2.lt H.2.1 h0) tN.nodup;omega
  have db:0<O.length:=nM.2 (λq=>by rw[q]at aW;cases aW);have aM:Ae (O.Nodup/\(∀x∈O,x<n)/\Vs E [] [] [0] S O):=⟨tN.nodup, λx A=>by obtain⟨q,q1,q2⟩:=tN.from_ x A;(have:q=0:=by simpa using q1);subst this;exact q2.lt H.2.1 h0,bf⟩
  obtain⟨gO,cO,eO⟩:∃g c,V=sG g O c:=by
   rcases BU b7 with⟨_,q⟩|⟨g,c,q⟩
   . omega
   exact⟨g,c,q⟩
  subst eO;have aX:Ah F F u5:=Ar bA lR b5;have au:=Av (d5 (Ba b7 bA.size) aX);have kG:=L.1.a7 aX;have d2:u5 ⟨G,2,M⟩=K sN:=kG.cell 2;have z2:=kG.frozen 2;clear tN bf b7 b5 bA x0 x1 bH aX kG aW;go_upto_region 14 with fail
  have cw:=(AD au.1).1;have aP:Ae (WJ w F (Aa u5 ⟨G,2,M⟩ (sG gO O cO)) n G gN B m gO cO p O):=by
   have d9:=L.1.lt;refine⟨?_,kN au.1 (a:=⟨G,2,M⟩) (by simp[Value.ownBlock];omega) _,?_, λk hk h1 h2=> ?_,?_,?_⟩
   . have:=(L.1.a7 au.2).set 2 (sG gO O cO);simpa using this
   . exact kN (Aw L.2.1 au.2 lR) (a:=⟨G,2,M⟩) (by simp[Value.ownBlock];exact aq.2.2.1.2.2.1) _
   . rw[lY u5 _ k _ h1];exact au.2.block k hk
   . rw[lr];exact au.2.size
   exact(Ar L.2.2.1 lR au.2).setCell L.2.2.2.1 _
  refine Ax (λu=>Ae (WJ w F u n G gN B m gO cO p O)) aP ?_;intro U6 aQ;clear aP d2 z2 au;have o2:U6 ⟨G,2,M⟩=K (sG gO O cO):=aQ.gK.cell 2;go_wp2_with fail;refine(P5 gO cO F O U6 oM aQ.ord).mono ?_;rintro e u7 ⟨rfl,bP,g7⟩;have aA:Ae (WJ w F u7 n G gN B m gO cO p O.reverse/\O.reverse.length= ↑O):=⟨aQ.rev cw L.1.lt L.2.2.2.2 L.2.2.1.size bP g7,mC⟩
  clear bP g7 aQ o2;have HR:Ae (∀k x:Nat,O.reverse[k]?=K x->u7 ⟨gO,k,M⟩=K ↑(x:Int)):= λk x A=>by obtain⟨_,_,ee,_,q⟩:=aA.1.ord.rd.at_ A;simp only[kI,mE,mV]at ee;obtain⟨rfl,rfl⟩:=ee;rw[lM]at q;exact q
  have o2:u7 ⟨G,2,M⟩=K (sG gO O cO):=by have:=aA.1.gK.cell 2;rw[aA.2]at this;exact this
  have cg:gO≠p:=by have:=L.2.2.2.2;omega
  have bG:Ae (Wn w u7 u7 n p O 0):=⟨by rw[Nq];exact aA.1.jt, λ_ _ _=>rfl,aA.1.e8⟩;go_wp2;go_loopw [81] (λi wr=>∃k:Nat,k<= ↑O/\i=iZ k/\Ae (Wn w u7 wr n p O k)) (λi _=> ↑O-(intOf i).toNat)
  case atStart=>exact⟨0,oM,rfl,bG⟩
  clear bG o2;obtain⟨k,cA,rfl,T⟩:=hrel;by_cases cH:k< ↑O
  . have df:(k:Int)<(O:Int):=oM;obtain⟨x,A⟩:∃x,O.reverse[k]?=K x:=⟨_,an (by rw[mC];exact cH)⟩;have cX:x<n:=aM.2.1 x (mc.1 (i7 A));have dg:(x:Int)<(n:Int):=oM;have y0:=T.cell (HR.o k x A) cg;have p3:wr ⟨G,3,M⟩=K (sG p n n):=T.cell (aA.1.gK.cell 3) (Ne.symm aq.2.2.1.2.2.1);have c3:=T.row.cellAt x oM;rw[M9 _ _ _ cX]at c3;have z3:=T.row.frozenAt x;have bT:=Av (T.set aM.1 A);clear A;go_wp2;go_roundw;(case rel=>exact⟨k+1,oM,by go_num,bT⟩);exact oI
  obtain rfl:k=O.length:=oM;have bS:=Av (WX aA.1 T aM.2.2 aM.2.1 L.2.2.2.1 L.1.lt L.2.2.2.2 L.2.2.1.size aq.1 aq.2.1 aq.2.2.1 aq.2.2.2.1 aq.2.2.2.2);go_wp2;go_ret;exact⟨G,gN,B,m,gO,cO,p,S,O,rfl,bS⟩
end Go.Proofs.YtmalfecapdmdbaaGreat
