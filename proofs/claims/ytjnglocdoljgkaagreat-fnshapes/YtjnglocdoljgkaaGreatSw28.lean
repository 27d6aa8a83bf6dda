import Derived.Test.YtjnglocdoljgkaaGreatSw25
namespace Go.Proofs.YtjnglocdoljgkaaGreat
open Go.ChangeShapes Go.WideShapes Go.ChangeAt Go.RowKit
set_option linter.unusedVariables false
open Go.Value renaming slice → Z
open Option renaming some → K,none → M
open Go renaming Value → J,World → Y,Calls → Ae
open Go.RowKit renaming Hid → Aa,Below → Ad
open Go.IntKind renaming i64 → Ab
set_option maxHeartbeats 8000000
set_option maxRecDepth 100000
theorem Nx (gb ob cb n:Nat)(E:Nat->List Nat)(w:Y)(hn:n<=1024)(h0:0<n)(hE:∀b,b<n->∀x∈E b,x<n)(bL:∀b,(E b).length<=2)(h:IK w gb ob n E)(hI:∀b,b<n->∃f l:Int,w.cell? ⟨gb,ob+b*3,M⟩=K (iZ f)/\w.cell? ⟨gb,ob+b*3+1,M⟩=K (iZ l)):
 Ae Tryz.prog 60 #[sO gb ob n cb] w λe w'=>∃(G gN cN t gO cO A:Nat) (S O:List Nat),e=.returned (.pointer G)/\GM w w' n G gN cN t gO cO A E S O:=by
 obtain⟨k0,hk,aY,aZ,bf⟩:=lU Bt;obtain⟨j0,hj,bg,bi,bj⟩:=lU KO;have H:=Ap (ji h (ji hE (ji bL hI)));clear h hE bL hI;go_enter Tryz.func60,Tryz.ntmps60;go_upto_region 2 with fail
 go_cut [4]from 13 (λs wx=>∃G t A,s=.pointer (K ⟨G,0,M⟩)/\Aa (Xq w wx n G t A))
 case first=>
  obtain⟨wA,eA,oA,gA⟩:=run_make_full (P:=Tryz.prog) w.drew w 23 36 j0 sN 1 Tryz.underlying23 hj bg bi Ab Ab n (by rw[bj];omega) oX lR;obtain⟨de,cW,bq,aP⟩:=run_make_full (P:=Tryz.prog) wA w 36 2 k0 (iZ 0) 1 Tryz.underlying36 hk aY aZ Ab Ab n (by rw[bf];omega) oX gA.size;obtain⟨wB,eB,oB,gB⟩:=run_make_full (P:=Tryz.prog) w.drew w 36 2 k0 (iZ 0) 1 Tryz.underlying36 hk aY aZ Ab Ab n (by rw[bf];omega) oX lR;obtain⟨df,cX,br,aQ⟩:=run_make_full (P:=Tryz.prog) wB w 23 36 j0 sN 1 Tryz.underlying23 hj bg bi Ab Ab n (by rw[bj];omega) oX gB.size;rw[EU]at oA br;rw[Ro]at oB bq;have HA:=Ap (ji (Am oA (Ca aP) lR) (ji bq (Ai (Ai (Aj w) lR (Ca gA)) lR (Ca aP))));have HB:=Ap (ji br (ji (Am oB (Ca aQ) lR) (Ai (Ai (Aj w) lR (Ca gB)) lR (Ca aQ))));clear oA bq oB br gA aP gB aQ;go_region
  . go_wp2;go_meet;exact⟨_,_,_,rfl,Xq.of HA.o.1 HA.o.2.1 HA.o.2.2⟩
  go_wp2;go_meet;exact⟨_,_,_,rfl,Xq.of HB.o.1 HB.o.2.1 HB.o.2.2⟩
 case rest =>
  obtain⟨G,t,A,rfl,a8⟩:=hcut;obtain⟨T,cQ⟩:∃W,W=wc:=⟨_,rfl⟩;subst cQ;have HW:=Ap a8.o.gG.size;have bz:Aa (NG w T T n G t (sG A n n) sN [] ((List.range n).map λx=>((sN:J),BF E 0 x))):=by
   refine⟨a8.o.gR,lq _ _ _ _,?_,⟨λx D=> ?_,?_⟩, λk _ _ _=>rfl,Nat.le_refl _,a8.o.gG,⟨a8.o.ge,a8.o.gR.lt,?_⟩⟩
   . have:=a8.o.iy;rw[ni];have e:(List.range n).map (Prod.fst ∘ λx=>((sN:J),BF E 0 x))=List.replicate n sN:=by
      apply mV;intro j;by_cases hj:j<n
      . simp[hj]
      rw[lB oT,lB oT]
     rw[e];exact this
   . simp only[lK]at D;obtain⟨y,⟨z,_,rfl⟩,rfl⟩:=D;(have:ints (BF E 0 z)=[]:=by simp[BF,ints]);simp only[this];exact lq _ _ _ _
   . rw[ni];refine nP.2 (oJ.imp λ_=> ?_);intro g hg;cases hg
   obtain⟨_,aM,h1⟩:=AD a8.o.iy;exact(lC.1 h1).1
  have aq:=Ap (ji a8.o.gY (ji a8.o.gG (ji ((λe=>FK a8.o.gR a8.o.gY dC (by rw[e];rfl)):A≠G) ((λe=>NA a8.o.gY a8.o.iy dC e):A≠t))));clear a8;go_wp2;go_loopw [21] (λi wr=>∃(b:Nat) (NV:J) (p:List J) (FS:List (J×List Nat)),b<=n/\i=iZ b/\ ↑p=b/\ ↑FS=n/\Aa (NG w T wr n G t (sG A n n) NV p FS/\(∀x,x<n->∃V,FS[x]?=K (V,BF E b x))/\(∀x,x<b->∃a c,p[x]?=K (Z a (E x).length c)/\Iu w (Z a (E x).length c) (E x)))) (λi _=>n-(intOf i).toNat)
  case atStart=>exact⟨0,_,[],_,oM,rfl,rfl,sP,bz.o, λx D=>⟨sN,by simp[D]⟩, λx D=>oM⟩
  clear bz;obtain⟨b,NV,p,FS,hb,rfl,bJ,bG,Q⟩:=hrel;have aj:=Ap bJ;have bT:p.length<=1024:=oM;clear bJ;by_cases aT:b<n
  . have cD:(b:Int)<(n:Int):=oM;obtain⟨a,C,g0,g1⟩:=H.o.1 b aT;obtain⟨ff,ll,i0,i1⟩:=H.o.2.2.2 b aT;have bt:=Ap g1;(replace g0:=Ak Q.o.1.gG g0);(replace i0:=Ak Q.o.1.gG i0);(replace i1:=Ak Q.o.1.gG i1);have cY:=H.o.2.2.1 b;obtain⟨aN,cN,eN⟩:=Az Q.o.1.ie;subst eN;clear g1;(go_upto_region 6 with fail);refine An (λu=>Aa (NG w T u n G t (sG A n n) (Z aN p cN) p FS/\Ar u wr #[iZ ff,iZ ll,Z a (E b).length C] 58)) ⟨Q.o.1.bM (Ag _ _),Ar.new _ _ _⟩ ?_
    intro U HU;obtain⟨tb,bO⟩:∃tb,tb=wr.heap.size:=⟨_,rfl⟩;rw[<-bO]at HU⊢;have cE: ↑p+1<=maxLen:=oX
    have bY:(p.length+1)*24<=140737488355328:=oM;clear bO g0 i0 i1;have bD:=Aj U;have bE:Ad U U (U.alloc (.cells #[Z a (E b).length C] 36)).drew:=Ai (Ag _ _) lR (Aj _);have x0:U.drew.cell? G=K (Z aN p cN):=(HU.o.1.gR.bM bD).cell 0;have x1:(U.alloc (.cells #[Z a (E b).length C] 36)).drew.cell? G=K (Z aN p cN):=(HU.o.1.gR.bM bE).cell 0;have x2:U.drew.cell? ⟨tb,2,M⟩=K (Z a (E b).length C):=(HU.o.2.bM bD).cell 2;have ae:=Ap (ji (HU.o.1.bM bE) (HU.o.2.bM bE));(have aA:Aa (∀j u,[(Z a (E b).length C:J)][j]?=K u->(U.alloc (.cells #[Z a (E b).length C] 36)).drew.cell? ((⟨U,0,M⟩:Addr).add j)=K u):= λj u hj=>by rw[Da,lY];have:=(Ar.new U #[Z a (E b).length C] 36).cell j;exact this.trans (by simpa using hj));(have cH:∀u∈[(Z a (E b).length C:J)],u.oneCell'=true:= λu hu=>by simp at hu;subst hu;rfl);have aw:Aa (∀I F w5,w5.ownsRow T 36 1 (sG I (p.length+1) F) (p.length+1) (p++[Z a (E b).length C])->(U.alloc (.cells #[Z a (E b).length C] 36)).drew.grownBy w5 (Z aN p cN).ownBlock->Ar w5 G #[Z aN p cN,sG t n n,sN,sG A n n,sN] 134/\NG w T (w5.setCell G (sG I (p.length+1) F)) n G t (sG A n n) (sG I (p.length+1) F) (p++[Z a (E b).length C]) FS/\Ar (w5.setCell G (sG I (p.length+1) F)) tb #[iZ ff,iZ ll,Z a (E b).length C] 58):= λI F w5 hown hgrow=>by obtain⟨q1,q2⟩:=ae.o.1.next HW.o hown hgrow;have k5:=ae.o.2.grown hgrow ae.o.1.ie dC;refine⟨q1,q2,k5.other (λe=> ?_) _⟩;simp only[]at e;unfold Ar at k5 q1;rw[e,q1]at k5;simp only[kK,mh]at k5;exact absurd k5.2.1 dC
    clear bD bE;go_cut [34]from 26 to 36 (λs wx=>∃I F,Aa (NG w T wx n G t (sG A n n) (sG I (p.length+1) F) (p++[Z a (E b).length C]) FS/\Ar wx tb #[iZ ff,iZ ll,Z a (E b).length C] 58))
    case first=>
     go_region_law (first
      |(refine step_append_lies _ rfl (.tmp 30) (.tmp 33) 23 rfl T 36 j0 sN 1 24 Tryz.underlying23 hj bg bi bj rfl dC (Z aN p cN) p p oE ae.o.1.ie U 1 1 [Z a (E b).length C] oE rfl aA.o cH Nat.one_pos cE bY ae.o.1.size _ rfl ?_;intro I F w5 hown hgrow hat aU;obtain⟨bp,l5,m5⟩:=aw.o I F w5 hown hgrow;have aD:Aa (NG w T (w5.setCell G (sG I (p.length+1) F)) n G t (sG A n n) (sG I (p.length+1) F) (p++[Z a (E b).length C]) FS/\Ar (w5.setCell G (sG I (p.length+1) F)) tb #[iZ ff,iZ ll,Z a (E b).length C] 58):=⟨l5,m5⟩;have t5:w5.cell? G=K (Z aN p cN):=bp.cell 0;have z5:=bp.frozen 0;clear hown hgrow hat aU bp l5 m5))
     all_goals
      go_wp2;go_meet;exact⟨I,F,aD⟩
    case rest=>
     obtain⟨I,F,aD⟩:=hcut;clear x0 x1 x2 ae aA aw HU;have t2:wc.cell? ⟨tb,2,M⟩=K (Z a (E b).length C):=aD.o.2.cell 2;go_wp2;go_loopw [40] (λi wr=>∃(k:Nat) (FS:List (J×List Nat)),k<=(E b).length/\i=iZ k/\ ↑FS=n/\Aa (NG w T wr n G t (sG A n n) (sG I (p.length+1) F) (p++[Z a (E b).length C]) FS/\(∀x,x<n->∃V,FS[x]?=K (V,BF E b x++Fj E b k x)))) (λi _=>(E b).length-(intOf i).toNat)
     (case atStart=>exact⟨0,FS,oM,rfl,bG,aD.o.1, λx D=>by obtain⟨V,hV⟩:=Q.o.2.1 x D;exact⟨V,by rw[Qi,nA];exact hV⟩⟩);clear aD t2;obtain⟨k,FT,cg,rfl,bH,HM⟩:=hrel;by_cases cu:k<(E b).length
     . have d8:(k:Int)<((E b).length:Int):=oM;obtain⟨y,hy⟩:∃y,(E b)[k]?=K y:=⟨_,an cu⟩;have cT:y<n:=H.o.2.1 b aT y (i8 hy);have dd:(y:Int)<(n:Int):=oM;have HY:=Ap hy;obtain⟨ga,oa,rfl,_,y0⟩:=bt.o.at_ hy;have cU:=Ap y0;(replace y0:=Ak HM.o.1.gG y0);obtain⟨V,hV⟩:=HM.o.2 y cT;obtain⟨aV,cV,eV⟩:=Az (HM.o.1.gW.own (V,ints (BF E b y++Fj E b k y)) (lK.2 ⟨(V,_),i8 hV,rfl⟩));simp only[AU]at eV;subst eV;(have cj:(BF E b y++Fj E b k y).length<=4096:=by have h1:=JA H.o.2.2.1 b y;have h2:=Mp E b k y;rw[kJ];omega);generalize bI:BF E b y++Fj E b k y=B at hV cj;have aF:=Ap (ji bI hV);clear hy hV bI;(go_upto_region 10 with fail);have bu:=Ap HM.o.1;refine An (λu=>Aa (NG w T u n G t (sG A n n) (sG I (p.length+1) F) (p++[sO ga oa (E b).length C]) FT)) bu ?_;intro U HU;clear y0 bu;have cG: ↑B+1<=maxLen:=oX
       have bZ:(B.length+1)*8<=140737488355328:=oM;have bD:=Aj U;have bE:Ad U U (U.alloc (.cells #[iZ (b:Int)] 2)).drew:=Ai (Ag _ _) lR (Aj _);have x0:U.drew.cell? ⟨G,1,M⟩=K (sG t n n):=(HU.o.gR.bM bD).cell 1;have x1:(U.alloc (.cells #[iZ (b:Int)] 2)).drew.cell? ⟨G,1,M⟩=K (sG t n n):=(HU.o.gR.bM bE).cell 1;(have aE:Aa (∀(u':Y),u'.ownsRow w 36 1 (sG t n n) n (FT.map Prod.fst)->u'.cell? ⟨t,y,M⟩=K (Z aV B cV)):= λu' cJ=>by have:=cJ.cellAt y oM;rw[lG,aF.o.2]at this;exact this);have x2:=aE.o _ (HU.o.bM bD).iy;have x3:=aE.o _ (HU.o.bM bE).iy;have ae:=Ap (HU.o.bM bE);(have aJ:Aa ((U.alloc (.cells #[iZ (b:Int)] 2)).drew.ownsRow T 2 1 (Z aV B cV) B (nv B)):=by have:=ae.o.gW.own (Z aV B cV,ints B) (lK.2 ⟨(_,B),i8 aF.o.2,rfl⟩);rw[AU,<-Dk]at this;exact this);have aA:=Ap (BP U (b:Int));(have cI:∀u∈[(iZ (b:Int):J)],u.oneCell'=true:= λu hu=>by simp at hu;subst hu;rfl);have aw:Aa (∀g6 ah w6,w6.ownsRow T 2 1 (sG g6 (B.length+1) ah) (B.length+1) (nv B++[iZ (b:Int)])->(U.alloc (.cells #[iZ (b:Int)] 2)).drew.grownBy w6 (Z aV B cV).ownBlock->((Z aV B cV).ownBlock=K g6\/g6=(U.alloc (.cells #[iZ (b:Int)] 2)).drew.heap.size)->w6.cell? ⟨G,1,M⟩=K (sG t n n)/\w6.cell? ⟨t,y,M⟩=K (Z aV B cV)/\w6.frozen? ⟨t,y,M⟩=false/\NG w T (w6.setCell ⟨t,y,M⟩ (sG g6 (B.length+1) ah)) n G t (sG A n n) (sG I (p.length+1) F) (p++[sO ga oa (E b).length C]) (FT.set y (sG g6 (B.length+1) ah,B++[b]))):= λg6 ah w6 hown hgrow hat=>by obtain⟨q1,q2⟩:=ae.o.gX HW.o aF.o.2 hown hgrow hat;exact⟨(ae.o.gR.grown hgrow aJ.o dC).cell 1,aE.o _ q1,q1.frozenAt y,q2⟩
       clear bD bE;go_wp2_with fail;go_region_law (first
        |(refine step_append_lies _ rfl (.tmp 55) (.tmp 57) 36 rfl T 2 k0 (iZ 0) 1 8 Tryz.underlying36 hk aY aZ bf rfl dC (Z aV B cV) B (nv B) oE aJ.o U 1 1 [iZ (b:Int)] oE rfl aA.o cI Nat.one_pos cG bZ ae.o.size _ rfl ?_;intro g6 ah w6 hown hgrow hat aU;obtain⟨t6,t7,z6,l6⟩:=aw.o g6 ah w6 hown hgrow hat;have aH:Aa (NG w T (w6.setCell ⟨t,y,M⟩ (sG g6 (B.length+1) ah)) n G t (sG A n n) (sG I (p.length+1) F) (p++[sO ga oa (E b).length C]) (FT.set y (sG g6 (B.length+1) ah,B++[b]))):=l6;clear hown hgrow hat aU l6))
       all_goals
        have bR:Aa (∀x,x<n->∃V,(FT.set y (sG g6 (B.length+1) ah,B++[b]))[x]?=K (V,BF E b x++Fj E b (k+1) x)):= λx D=>by
         rw[Qh HY.o x];by_cases e:x=y
         . subst e;refine⟨sG g6 (B.length+1) ah,?_⟩;rw[lS rfl,<-mI,aF.o.1,mG oM]
         rw[lE e,mC (Ne.symm e)];exact HM.o.2 x D
        clear x0 x1 x2 x3 ae aJ aA aw HU aE;go_wp2;go_roundw;(case rel=>exact⟨k+1,FT.set y (sG g6 (B.length+1) ah,B++[b]),oM,by go_num,by rw[mU];exact bH,aH.o,bR.o⟩);exact oI
     obtain rfl:k=(E b).length:=oM;have bB:Aa ((∀x,x<n->∃V,FT[x]?=K (V,BF E (b+1) x))/\(∀x,x<b+1->∃a' c,(p++[Z a (E b).length C])[x]?=K (Z a' (E x).length c)/\Iu w (Z a' (E x).length c) (E x))):=by
      refine⟨λx D=>by rw[KF];exact HM.o.2 x D, λx D=> ?_⟩;by_cases e:x<b
      . obtain⟨a',c',q1,q2⟩:=Q.o.2.2 x e;exact⟨a',c',by rw[ld (by rw[aj.o];exact e)];exact q1,q2⟩
      have:x=b:=oM;subst this;refine⟨a,C,?_,bt.o⟩;rw[lN (by rw[aj.o];exact Nat.le_refl _),aj.o,ng];rfl
     go_wp2;go_roundw;(case rel=>exact⟨b+1,_,p++[Z a (E b).length C],FT,oM,by go_num,by rw[kJ,kQ,aj.o],bH,HM.o.1,bB.o.1,bB.o.2⟩);exact oI
  have bS:b=n:=oM;have cD:¬(b:Int)<(n:Int):=oM;rw[bS]at Q aj;go_upto_region 13 with fail
  obtain⟨L,cM⟩:∃W,W=wr:=⟨_,rfl⟩;subst cM;obtain⟨gN,cN,eN⟩:∃g c,NV=sG g n c:=by
   rcases Bz Q.o.1.ie with⟨_,q⟩|⟨g,c,q⟩
   . rw[aj.o]at q;omega
   rw[aj.o]at q;exact⟨g,c,q⟩
  subst eN;have am:=Ap (TX Q.o.1 aj.o bG Q.o.2.1 Q.o.2.2 aq.o.1 aq.o.2.2.1 aq.o.2.2.2);have R:Aa (Ar L G #[sG gN n cN,sG t n n,sN,sG A n n,sN] 134/\L.ownsRow w 2 1 (sG A n n) n (iv (λ_=>0) n)/\Ad w w L/\ ↑w<=G/\A< ↑L):=by (have hp:L.ownsRow w 2 1 (sG A n n) n (iv (λ_=>0) n):=by have h0:=aq.o.1;refine⟨h0.1,h0.2.imp id ?_⟩;rintro⟨g',c',aM,e1,e2,e3,e4⟩;refine⟨g',c',aM,e1,e2,?_,e4⟩;(cases e1);rw[Q.o.1.fx A (lC.1 e3).1 aq.o.2.2.1 aq.o.2.2.2];exact e3);refine⟨Q.o.1.gR,hp,Q.o.1.gG,Q.o.1.lt.1,?_⟩;obtain⟨_,aM,h1⟩:=AD hp;exact(lC.1 h1).1
  clear Q aq aj bT;have bA:=Ag L (.cells #[iZ 0] 2);have x0:L.cell? G=K (sG gN n cN):=R.o.1.cell 0;have x1:(L.alloc (.cells #[iZ 0] 2)).cell? G=K (sG gN n cN):=(R.o.1.bM bA).cell 0;have bF:Aa (Iu (L.alloc (.cells #[iZ 0] 2)) (sG L 1 1) [0]):=by refine⟨rfl,.inr ⟨L,0,1,rfl, λj v hj=> ?_⟩⟩;rw[lY,(Ar.new L #[iZ 0] 2).cell j];simpa[nv]using hj
  go_wp2_with fail;refine(Ip gN 0 cN n E _ [0] _ [] _ hn H.o.2.1 (λb=>by have:=H.o.2.2.1 b;omega) (am.o.1.bM bA) (λx D=>by simp at D;omega) sP bF.o (.inl ⟨rfl,rfl⟩)).mono ?_;rintro e u5 ⟨V,S,O,rfl,aX,aW,b5⟩;obtain⟨N,tN⟩:=aX.told;have bV:O=N:=by simpa using tN.o
  subst bV;have aR:0∈O:=by
   have:=tN.todo 0 sP;rcases(tN.seen 0).1 this with q|q
   . cases q
   exact q
  have d7: ↑O<=n:=by have:=Ga O n (λx D=>by obtain⟨q,q1,q2⟩:=tN.from_ x D;(have:q=0:=by simpa using q1);subst this;exact q2.lt H.o.2.1 h0) tN.nodup;omega
  have d6:0<O.length:=nV.2 (λq=>by rw[q]at aR;cases aR);have aG:Aa (O.Nodup/\(∀x∈O,x<n)/\Vs E [] [] [0] S O):=⟨tN.nodup, λx D=>by obtain⟨q,q1,q2⟩:=tN.from_ x D;(have:q=0:=by simpa using q1);subst this;exact q2.lt H.o.2.1 h0,aX⟩
  obtain⟨gO,cO,eO⟩:∃g c,V=sG g O c:=by
   rcases Bz aW with⟨_,q⟩|⟨g,c,q⟩
   . omega
   exact⟨g,c,q⟩
  subst eO;have aS:Ad L L u5:=Ai bA lR b5;have ao:=Ap (ji (Ba aW bA.size) aS);have kG:=R.o.1.bM aS;have d2:u5.cell? ⟨G,2,M⟩=K sN:=kG.cell 2;have z2:=kG.frozen 2;clear tN aX aW b5 bA x0 x1 bF aS kG aR;go_upto_region 14 with fail
  have ce:=(AD ao.o.1).1;have aH:Aa (Wq w L (u5.setCell ⟨G,2,M⟩ (sG gO O cO)) n G gN cN t gO cO A O):=by
   have cZ:=R.o.1.lt;refine⟨?_,kO ao.o.1 (a:=⟨G,2,M⟩) (by simp[Value.ownBlock];omega) _,?_, λk hk h1 h2=> ?_,?_,?_⟩
   . have:=(R.o.1.bM ao.o.2).set 2 (sG gO O cO);simpa using this
   . exact kO (Am R.o.2.1 ao.o.2 lR) (a:=⟨G,2,M⟩) (by simp[Value.ownBlock];exact am.o.2.2.1.2.2.1) _
   . rw[lZ u5 _ k _ h1];exact ao.o.2.block k hk
   . rw[mB];exact ao.o.2.size
   exact(Ai R.o.2.2.1 lR ao.o.2).setCell R.o.2.2.2.1 _
  refine An (λu=>Aa (Wq w L u n G gN cN t gO cO A O)) aH ?_;intro U6 aI;clear aH d2 z2 ao;have o2:U6.cell? ⟨G,2,M⟩=K (sG gO O cO):=aI.o.gR.cell 2;go_wp2_with fail;refine(Pi gO cO L O U6 oM aI.o.ord).mono ?_;rintro e u7 ⟨rfl,bK,g7⟩;have au:Aa (Wq w L u7 n G gN cN t gO cO A O.reverse/\O.reverse.length= ↑O):=⟨aI.o.rev ce R.o.1.lt R.o.2.2.2.2 R.o.2.2.1.size bK g7,mF⟩
  clear bK g7 aI o2;have HR:Aa (∀k x:Nat,O.reverse[k]?=K x->u7.cell? ⟨gO,k,M⟩=K (iZ (x:Int))):= λk x D=>by obtain⟨_,_,ee,_,q⟩:=au.o.1.ord.rd.at_ D;simp only[kK,mA,mg]at ee;obtain⟨rfl,rfl⟩:=ee;rw[lY]at q;exact q
  have o2:u7.cell? ⟨G,2,M⟩=K (sG gO O cO):=by have:=au.o.1.gR.cell 2;rw[au.o.2]at this;exact this
  have bX:gO≠A:=by have:=R.o.2.2.2.2;omega
  have bC:Aa (VU w u7 u7 n A O 0):=⟨by rw[MJ];exact au.o.1.gY, λ_ _ _=>rfl,au.o.1.gG⟩;go_wp2;go_loopw [81] (λi wr=>∃k:Nat,k<= ↑O/\i=iZ k/\Aa (VU w u7 wr n A O k)) (λi _=> ↑O-(intOf i).toNat)
  case atStart=>exact⟨0,oM,rfl,bC⟩
  clear bC o2;obtain⟨k,cg,rfl,HM⟩:=hrel;by_cases cA:k< ↑O
  . have d9:(k:Int)<(O:Int):=oM;obtain⟨x,D⟩:∃x,O.reverse[k]?=K x:=⟨_,an (by rw[mF];exact cA)⟩;have cR:x<n:=aG.o.2.1 x (mT.1 (i8 D));have db:(x:Int)<(n:Int):=oM;have y0:=HM.o.cell (HR.o k x D) bX;have p3:wr.cell? ⟨G,3,M⟩=K (sG A n n):=HM.o.cell (au.o.1.gR.cell 3) (Ne.symm am.o.2.2.1.2.2.1);have c3:=HM.o.row.cellAt x oM;rw[Ms _ _ _ cR]at c3;have z3:=HM.o.row.frozenAt x;have bQ:=Ap (HM.o.set aG.o.1 D);clear D;go_wp2;go_roundw;(case rel=>exact⟨k+1,oM,by go_num,bQ⟩);exact oI
  obtain rfl:k=O.length:=oM;have bP:=Ap (WF au.o.1 HM.o aG.o.2.2 aG.o.2.1 R.o.2.2.2.1 R.o.1.lt R.o.2.2.2.2 R.o.2.2.1.size am.o.1 am.o.2.1 am.o.2.2.1 am.o.2.2.2.1 am.o.2.2.2.2);go_wp2;go_ret;exact⟨G,gN,cN,t,gO,cO,A,S,O,rfl,bP.o⟩
end Go.Proofs.YtjnglocdoljgkaaGreat
