import Derived.Test.YtjnglocdoljgkaaGreatSw11
import Derived.Test.YtjnglocdoljgkaaGreatSw7
namespace Go.Proofs.YtjnglocdoljgkaaGreat
open Go.ChangeShapes Go.WideShapes Go.ChangeAt Go.RowKit
set_option linter.unusedVariables false
open Go.Value renaming slice → Z,int → Ac
open Option renaming some → K,none → M
open Go renaming Value → J,World → Y,Calls → Ae,TypeId → Af
open Go.RowKit renaming Hid → Aa,Below → Ad
open Go.IntKind renaming i64 → Ab
set_option maxHeartbeats 8000000
set_option maxRecDepth 100000
variable {w u a i m:Y}{n base g B k f x X cap:Nat}{V V' l b j e s p:J}{L:List (J×List Int)}{cb:List Int}{t:Af}{O:List Nat}{xs:List MI}{F:List (MB×J)}
theorem Py{q:Prop}(h:q:=by
 go_wp2_with fail;have R0:=HN.o.1.im.set 0 (iZ (h:Int));have R1:=R0.set 1 (Z aB B cB);have R2:=R1.set 2 (Z aK ((List.range b).filter (Lf h)).length cK);have q0:=R2.cell 0;have q1:=R2.cell 1;have q2:=R2.cell 2;simp at q0 q1 q2;refine kY (v:=.agg #[iZ (h:Int),Z aB B cB,Z aK ((List.range b).filter (Lf h)).length cK]) (by simp[results,Tryz.results40,go_sem,q0,q1,q2]) rfl ⟨_,_,rfl,?_,?_,?_,?_,_,_,_,rfl⟩
 . rw[<-HB.o.1];(have n0:∀i:Nat,(Z aB B cB).ownBlock≠K (⟨w,i,M⟩:Addr).block:= λi q=>(HNE.o _ q).2 rfl);exact kO (kO (kO HN.o.2.1 (n0 0) _) (n0 1) _) (n0 2) _
 . intro hq;rw[<-HB.o.1]at hq;obtain rfl:=HN.o.2.2 hq;refine Ba (base:=w2) ?_ (by have:=HN.o.1.blt;omega);(have n0:∀i:Nat,(Z aK ((List.range b).filter (Lf h)).length cK).ownBlock≠K (⟨w,i,M⟩:Addr).block:= λi q=>by have h1:=(HN.o.1.row.lt _ q).1;have h2:=HN.o.1.blt;simp only[]at h1;omega);exact kO (kO (kO HN.o.1.row (n0 0) _) (n0 1) _) (n0 2) _
 . exact((HN.o.1.gG.setCell lR _).setCell lR _).setCell lR _
 intro gg h1 h2;have h3:=(HBR.o.lt gg h1).2;have h4:=(HN.o.1.row.lt gg h2).1;omega):q:=h
theorem Pz{q:Prop}(h:q:=by unfold Ar at h2;rw[e,h2]at h1;simp only[kK,mh]at h1;exact absurd h1.2.1 (by decide)):q:=h
theorem PA{q:Prop}(h:q:=by
 go_wp2;go_roundw;case rel=>exact⟨k+1,BV,by omega,by go_num,HN⟩
 simp[intOf];omega):q:=h
theorem Qs (g o c n gm cm h:Nat)(E:Nat->List Nat)(D Lf:Nat->Nat->Bool)(w:Y)(hn:n<=1024)(hh:h<n)(hE:∀b,b<n->∀x∈E b,x<n)(bQ:∀b,(E b).length<=2)(hL:∀x,Lf h x=true↔DZ E D n h x)(hg:IK w g o n E)(hm:GW w gm n (λb d=>D d b)):
 Ae Tryz.prog 40 #[sO g o n c,sG gm n cm,iZ (h:Int)] w λe w'=>∃BV Q,e=.returned (.agg #[iZ (h:Int),BV,Q])/\Gj w' w BV (AJ E D n h)/\(AJ E D n h≠[]->Gj w' w Q ((List.range n).filter (Lf h)))/\Ad w w w'/\(∀q,BV.ownBlock=K q->Q.ownBlock≠K q)/\∃ak nk ck,Q=Z ak nk ck:=by
 obtain⟨j0,hj,bT,bV,bX⟩:=lU DL;obtain⟨k0,hk,aH,aI,aJ⟩:=lU Bt;have H:=Ap (ji hg (ji hE (ji bQ (ji hm hL))));have ce:(h:Int)<(n:Int):=oM;go_enter Tryz.func40,Tryz.ntmps40;go_upto_region 2 with fail
 refine An (λu=>Aa (Ar u w #[iZ 0,sN,sN] 95/\Ar u ((w:Nat)+1) #[iZ (h:Int),sN,sN] 95/\Ad w w u)) ?_ ?_
 . have b1:=Ag w (.cells #[iZ 0,sN,sN] 95);have k1:=Ar.new w #[iZ 0,sN,sN] 95;have z1:(w.alloc (.cells #[iZ 0,sN,sN] 95)).heap.size= ↑w+1:=sP
   generalize w.alloc (.cells #[iZ 0,sN,sN] 95)=W1 at b1 k1 z1⊢;have k2:=Ar.new W1 #[iZ (h:Int),sN,sN] 95;rw[z1]at k2;exact⟨k1.bM (Ag _ _),k2,Ai b1 lR (Ag _ _)⟩
 intro U0 aj;go_wp2_with (at_make;refine mX _ rfl _ _ 56 rfl w 4 j0 (.bool false) 1 Tryz.underlying56 hj bT bV Ab Ab _ _ n rfl rfl rfl rfl (by rw[bX];omega) oX aj.o.2.2.size ?_;intro w3 hown hgrow;rw[Dz,Hs]at hown;have z0:=mR hown h;have d0:w3.cell? ⟨U0,h,M⟩=K (.bool false):=Gq.cell hown hh);have HS:Aa (L1 w (w3.setCell ⟨U0,h,M⟩ (.bool true)) n h ((w:Nat)+1) U0 sN []):=by
  have aT:Ad U0 U0 w3:=(lQ _ _).grown hgrow lR (λk hk=>by cases hk);have l0:=aj.o.1.lt;have l1:=aj.o.2.1.lt;refine⟨(aj.o.1.bM aT).other oS _,(aj.o.2.1.bM aT).other oS _,Gq.set (P:= λ_=>false) hown h true λj hj=> ?_,lq _ _ _ _,(Ai aj.o.2.2 lR aT).setCell oS _,oM⟩;by_cases e:j=h
  . subst e;simp
  simp[e]
 have bY:Aa ((U0:Nat)= ↑U0):=rfl
 generalize U0.heap.size=p at HS⊢;go_loopw [9] (λi wr=>∃(b:Nat) (BV:J),b<=n/\i=iZ b/\Aa (L1 w wr n h ((w:Nat)+1) p BV (AJ E D b h))) (λi _=>n-(intOf i).toNat)
 case atStart=>exact⟨0,_,oM,rfl,HS⟩
 obtain⟨b,BV,hb,rfl,l⟩:=hrel;by_cases am:b<n
 . have aA:(b:Int)<(n:Int):=oM;obtain⟨a,ca,g0,g1⟩:=H.o.1 b am;have HG:=Ap (ji g0 g1);obtain⟨rb,r0,r1⟩:=H.o.2.2.2.1 b am;have bf:=Ap (ji r0 (r1 h hh));have bF:=H.o.2.2.1 b;have bB:=Ap (FW H.o.2.2.1 D h b);go_wp2;go_loopw [10] (λi wr=>∃(k:Nat) (BV:J),k<=(E b).length/\i=iZ k/\Aa (L1 w wr n h ((w:Nat)+1) p BV (AJ E D b h++CI E D h b k))) (λi _=>2-(intOf i).toNat)
   (case atStart=>exact⟨0,BV,oM,rfl,by rw[Kt,nA];exact l⟩);obtain⟨k,BV,cg,rfl,l⟩:=hrel;have g0:=Ak l.o.gG HG.o.1;by_cases bK:k<(E b).length
   . have cu:(k:Int)<((E b).length:Int):=oM;obtain⟨y,R⟩:∃y,(E b)[k]?=K y:=⟨_,an bK⟩;have HY:=Ap R;obtain⟨ga,oa,rfl,_,y0⟩:=HG.o.2.at_ R;(replace y0:=Ak l.o.gG y0);have m0:=Ak l.o.gG bf.o.1;have m1:=Ak l.o.gG bf.o.2;by_cases e:y=h
     . subst e;cases hD:D y b
       . rw[hD]at m1;(have HN:Aa (L1 w wr n y ((w:Nat)+1) p BV (AJ E D b y++CI E D y b (k+1))):=by show L1 w wr n y _ _ _ _;rw[IV HY.o (λq=>by rw[hD]at q;cases q.2)];exact l.o);exact PA
       rw[hD]at m1;obtain⟨aB,cB,rfl⟩:=Az l.o.back;(have br:(AJ E D b y++CI E D y b k).length<=4096:=by have h1:=bB.o;have h2:=Ju E D y b k;rw[kJ];omega);generalize aR:(AJ E D b y++CI E D y b k)=T at l br;have bu:=Ap aR;(go_upto_region 11 with fail);refine An (λu=>Aa (L1 w u n y ((w:Nat)+1) p (Z aB T cB) T)) l ?_;intro U t;have t1:=t.o.gR.cell 1;simp only[kL,jt,kI]at t1;go_wp2_with (at_builtin;refine wpList_append_lies _ rfl _ _ 36 rfl w 2 k0 (iZ 0) 1 8 Tryz.underlying36 hk aH aI aJ rfl dC _ T (nv T) rfl (t.o.al (.cells #[iZ (b:Int)] 2)).1 U 1 1 [iZ (b:Int)] rfl rfl (BP U (b:Int)) (λu O=>by simp at O;subst O;rfl) oM (by simp[maxLen];omega) oM (t.o.al (.cells #[iZ (b:Int)] 2)).2 _ rfl ?_;intro F C S hown hgrow hat ao;obtain⟨ah,l5⟩:=t.o.gX hown hgrow;have a8:Aa (L1 w (S.setCell ⟨(w:Nat)+1,1,M⟩ (sG F (T.length+1) C)) n y ((w:Nat)+1) p (sG F (T.length+1) C) (T++[b])):=l5;have t5:=ah.cell 1;have z5:=ah.frozen 1;simp only[kL,jt,kI]at t5;clear hown hgrow hat ao ah l5);(have HN:Aa (L1 w (S.setCell ⟨(w:Nat)+1,1,M⟩ (sG F (T.length+1) C)) n y ((w:Nat)+1) p (sG F (T.length+1) C) (AJ E D b y++CI E D y b (k+1))):=by show L1 w _ n y _ _ _ _;rw[Mg HY.o hD,<-mI,bu.o];exact a8.o);go_roundw;(case rel=>exact⟨k+1,_,oM,by go_num,HN⟩);exact oI
     have eI:((y:Int)==(h:Int))=false:=oT;(have HN:Aa (L1 w wr n h ((w:Nat)+1) p BV (AJ E D b h++CI E D h b (k+1))):=by show L1 w wr n h _ _ _ _;rw[IV HY.o (λq=>e q.1)];exact l.o);exact PA
   obtain rfl:k=(E b).length:=oM;rw[<-Iv]at l;go_wp2;go_roundw;(case rel=>exact⟨b+1,BV,oM,by go_num,l⟩);exact oI
 have aQ:b=n:=oM;have aA:¬(b:Int)<(n:Int):=oM;go_upto_region 12 with fail
 rw[aQ]at l;obtain⟨A,bR⟩:∃W,W=wr:=⟨_,rfl⟩;subst bR;obtain⟨aB,cB,rfl⟩:=Az l.o.back;obtain⟨B,hB⟩:∃B,B=AJ E D n h:=⟨_,rfl⟩;rw[<-hB]at l;have br:B.length<=2048:=by have:=FW H.o.2.2.1 D h n;rw[hB];omega
 have aU:∀x∈B,x<n:= λx G=>by rw[hB]at G;exact((Jt E D n h x).1 G).1
 have HB:=Ap (ji hB aU);clear hB aU;have aW:p≠ ↑w+1:= λe=>by obtain⟨_,bi,h1⟩:=AD l.o.ii;have h2:=l.o.gR;exact Pz
 have bH:p≠w.heap.size:= λe=>by obtain⟨_,bi,h1⟩:=AD l.o.ii;have h2:=l.o.im;exact Pz
 have bz:Aa (0<B.length->∃gB,aB=K ⟨gB,0,M⟩/\gB≠p/\∀k x:Nat,B[k]?=K x->A.cell? ⟨gB,k,M⟩=K (iZ (x:Int))):= λhp=>by
  obtain⟨gB,oB,e1,_,e2⟩:=l.o.back.rd.all hp;rcases Bz l.o.back with⟨e3,e4⟩|⟨gg,cc,e3⟩
  . omega
  simp only[jc,lO]at e3;obtain⟨e3,_⟩:=e3;rw[e3]at e1;simp only[kK,mA,mg]at e1;obtain⟨rfl,rfl⟩:=e1;subst e3;refine⟨gg,rfl, λe=> ?_, λk x G=>by have:=e2 k x G;rw[lY]at this;exact this⟩;exact NA l.o.back l.o.ii dC e
 have aZ:Aa (L2 w A (A.alloc (.cells #[] 2)) n p (λx=>(h::[]).contains x) (sG A 0 0) []):=by have bA:=Ag A (.cells #[] 2);refine⟨l.o.ii.bM bA,⟨rfl,.inr ⟨A,0,#[],rfl,Nat.le_refl _,Ar.new A #[] 2,Nat.le_refl _,mu _,rfl,rfl⟩⟩, λk hk _=>bA.block k hk,Ai l.o.gG lR bA,bA.size,l.o.ii.lt⟩
 have HW:=Ap l.o.gG.size;go_wp2;go_loopw [11,12] (λV i wr=>∃(L:List Nat) (k s cl:Nat),V=sG s L cl/\i=iZ k/\k<= ↑B/\Aa (L2 w A wr n p (λx=>(h::L).contains x) V L/\PU E D n h L/\RO h L (B.take k))) (λ_ i _=> ↑B-(intOf i).toNat)
 case atStart=>exact⟨[],0,_,_,rfl,rfl,oM,aZ.o,PU.nil, λx G=>by simp at G⟩
 clear aZ;obtain⟨L,k,s,cl,rfl,rfl,cj,f⟩:=hrel;have t1:wr.cell? ⟨(w:Nat)+1,1,M⟩=K (Z aB B cB):=f.o.1.cell (l.o.gR.cell 1) (Ne.symm aW);by_cases am:k< ↑B
 . have aA:(k:Int)<(B:Int):=oM;obtain⟨x,G⟩:∃x,B[k]?=K x:=⟨_,an am⟩;have HX:=Ap G;have bt:x<n:=HB.o.2 x (i8 G);have cG:(x:Int)<(n:Int):=oM;obtain⟨gB,rfl,bq,bp⟩:=bz.o oM;have bg:=Ap (bp k x G);have x0:=f.o.1.cell bg.o bq;have s0:=f.o.1.ii.cell bt;clear G bp;cases hc:(h::L).contains x
   . simp only[hc]at s0;have z0:=f.o.1.ii.frozen x;have aD:¬(x=h\/x∈L):=by simpa using hc
     have aF:=Ap (f.o.1.mark x true (Oh h L x n));have aq:=Ap (f.o.2.1.add (λe=>aD (.inl e)) bt ⟨x,by rw[<-HB.o.1];exact i8 HX.o,.here (λe=>aD (.inl e))⟩ (λe=>aD (.inr e)));have I:=aq.o.len;rw[kJ,kQ]at I;have HN:Aa (RO h (L++[x]) (B.take (k+1))):=f.o.2.2.next (λy R=>kS.2 (.inl R)) HX.o (.inr sP);(go_upto_region 18 with fail);refine An (λu=>Aa (L2 w A u n p (λj=>(h::(L++[x])).contains j) (sG s L cl) L)) aF ?_;intro U t;clear aF s0 z0 x0 t1;have t1:U.cell? ⟨(w:Nat)+1,1,M⟩=K (sG gB B cB):=t.o.cell (l.o.gR.cell 1) (Ne.symm aW);have x0:=t.o.cell bg.o bq;go_wp2_with (at_builtin;refine wpList_append_lies _ rfl _ _ 36 rfl A 2 k0 (iZ 0) 1 8 Tryz.underlying36 hk aH aI aJ rfl dC _ L (nv L) rfl (t.o.al (.cells #[iZ (x:Int)] 2)).1 U 1 1 [iZ (x:Int)] rfl rfl (BP U (x:Int)) (λu O=>by simp at O;subst O;rfl) oM (by simp[maxLen];omega) oM (t.o.al (.cells #[iZ (x:Int)] 2)).2 _ rfl ?_;intro F C S hown hgrow hat ao;have a8:Aa (L2 w A S n p (λj=>(h::(L++[x])).contains j) (sG F (L.length+1) C) (L++[x])):=t.o.gX HW.o hown hgrow;clear hown hgrow hat ao);go_roundw;(case rel=>exact⟨L++[x],k+1,F,C,by rw[kJ,kQ],by go_num,oM,a8.o,aq.o,HN.o⟩);exact oI
   simp only[hc]at s0;have aD:x=h\/x∈L:=by simpa using hc
   have HN:=Ap (f.o.2.2.next (λy R=>R) HX.o aD);go_wp2;go_roundw;(case rel=>exact⟨L,k+1,s,cl,rfl,by go_num,oM,f.o.1,f.o.2.1,HN.o⟩);exact oI
 have aY:Aa (RO h L (AJ E D n h)):=by have:=f.o.2.2;rw[lu oM,HB.o.1]at this;exact this
 have aE:=Ap (ji f.o.1 (ji f.o.2.1 aY.o));clear f aY;have I:=aE.o.2.1.len;go_wp2;go_loopw [11,13] (λV i wr=>∃(L:List Nat) (k s cl:Nat),V=sG s L cl/\i=iZ k/\k<= ↑L/\ ↑L<=n/\Aa (L2 w A wr n p (λx=>(h::L).contains x) V L/\PU E D n h L/\RO h L (AJ E D n h)/\UF E n h L k)) (λ_ i _=>n-(intOf i).toNat)
 case atStart=>exact⟨L,0,s,cl,rfl,rfl,oM,I,aE.o.1,aE.o.2.1,aE.o.2.2, λj x hj hl=>oM⟩
 obtain⟨L,i,s,cl,rfl,rfl,ae,I,f⟩:=hrel;by_cases ao:i< ↑L
 . have cA :(i:Int)<(L:Int):=oM;obtain⟨x,G⟩:∃x,L[i]?=K x:=⟨_,an ao⟩;have HX:=Ap G;go_wp2;go_loopw [11,14] (λV j wr=>∃(L:List Nat) (b s cl:Nat),V=sG s L cl/\j=iZ b/\b<=n/\i< ↑L/\ ↑L<=n/\Aa (L2 w A wr n p (λx=>(h::L).contains x) V L/\PU E D n h L/\RO h L (AJ E D n h)/\UF E n h L i/\L[i]?=K x/\M8 E h L x b)) (λ_ j _=>n-(intOf j).toNat)
   (case atStart=>exact⟨L,0,s,cl,rfl,rfl,oM,ao,I,f.o.1,f.o.2.1,f.o.2.2.1,f.o.2.2.2,HX.o, λy R=>oM⟩);obtain⟨L,b,s,cl,rfl,rfl,hb,ae,I,f⟩:=hrel;have bI:(i:Int)<(L:Int):=oM;by_cases aw:b<n
   . have bL:(b:Int)<(n:Int):=oM;obtain⟨a,ca,g0,g1⟩:=H.o.1 b aw;have HG:=Ap (ji g0 g1);have bF:=H.o.2.2.1 b;go_wp2;go_loopw [11,15] (λV j wr=>∃(L:List Nat) (m s cl:Nat),V=sG s L cl/\j=iZ m/\m<=(E b).length/\i< ↑L/\ ↑L<=n/\Aa (L2 w A wr n p (λx=>(h::L).contains x) V L/\PU E D n h L/\RO h L (AJ E D n h)/\UF E n h L i/\L[i]?=K x/\M8 E h L x b/\(x∈(E b).take m->b=h\/b∈L))) (λ_ j _=>2-(intOf j).toNat)
     (case atStart=>exact⟨L,0,s,cl,rfl,rfl,oM,ae,I,f.o.1,f.o.2.1,f.o.2.2.1,f.o.2.2.2.1,f.o.2.2.2.2.1,f.o.2.2.2.2.2, λq=>by simp at q⟩);obtain⟨L,m,s,cl,rfl,rfl,cE,ae,I,f⟩:=hrel;have bI:(i:Int)<(L:Int):=oM;have g0:=Ak f.o.1.gG HG.o.1;by_cases bO:m<(E b).length
     . have cD:(m:Int)<((E b).length:Int):=oM;obtain⟨y,R⟩:∃y,(E b)[m]?=K y:=⟨_,an bO⟩;have HY:Aa ((E b).take (m+1)=(E b).take m++[y]/\y∈E b):=by obtain⟨hl,rfl⟩:=iV.1 R;exact⟨lH hl,mW hl⟩
       obtain⟨ga,oa,rfl,_,y0⟩:=HG.o.2.at_ R;(replace y0:=Ak f.o.1.gG y0);obtain⟨_,_,ee,_,l0⟩:=f.o.1.list.rd.at_ f.o.2.2.2.2.1;simp only[kK,mA,mg]at ee;obtain⟨rfl,rfl⟩:=ee;rw[lY]at l0;have s0:=f.o.1.ii.cell aw;have aS:Aa (∀L':List Nat,(x=y->b=h\/b∈L')->(∀z∈L,z∈L')->x∈(E b).take (m+1)->b=h\/b∈L'):= λL' h1 h2 h3=>by
        rw[HY.o.1]at h3;rcases kS.1 h3 with h3|h3
        . exact(f.o.2.2.2.2.2.2 h3).imp id (h2 b)
        simp only[lA,lW,mZ]at h3;exact h1 h3
       by_cases e:y=x
       . subst e;cases hc:(h::L).contains b
         . simp only[hc]at s0;have au:¬(b=h\/b∈L):=by simpa using hc
           go_wp2;go_quiet (fail);refine A3 (λu=>Aa (L2 w A u n p (λx=>(h::L).contains x) (sG s L cl) L)) (f.o.1.bM (As _ _ _)) ?_;intro U1 aP;have s1:=aP.o.ii.cell aw;have z1:=aP.o.ii.frozen b;have aq:=Ap (f.o.2.1.add (λe=>au (.inl e)) aw (f.o.2.1.step (i8 f.o.2.2.2.2.1) aw HY.o.2 (λe=>au (.inl e))) (λe=>au (.inr e)));have bj:=aq.o.len;rw[kJ,kQ]at bj;have aF:=Ap (aP.o.mark b true (Oh h L b n));(go_upto_region 30 with fail);refine An (λu=>Aa (L2 w A u n p (λj=>(h::(L++[b])).contains j) (sG s L cl) L)) aF ?_;intro U t;go_wp2_with (at_builtin;refine wpList_append_lies _ rfl _ _ 36 rfl A 2 k0 (iZ 0) 1 8 Tryz.underlying36 hk aH aI aJ rfl dC _ L (nv L) rfl (t.o.al (.cells #[iZ (b:Int)] 2)).1 U 1 1 [iZ (b:Int)] rfl rfl (BP U (b:Int)) (λu O=>by simp at O;subst O;rfl) oM (by simp[maxLen];omega) oM (t.o.al (.cells #[iZ (b:Int)] 2)).2 _ rfl ?_;intro F C S hown hgrow hat aX;have a8:Aa (L2 w A S n p (λj=>(h::(L++[b])).contains j) (sG F (L.length+1) C) (L++[b])):=t.o.gX HW.o hown hgrow;clear hown hgrow hat aX);go_roundw;(case rel=>exact⟨L++[b],m+1,F,C,by rw[kJ,kQ],by go_num,oM,by rw[kJ];omega,by rw[kJ,kQ];exact bj,a8.o,aq.o,f.o.2.2.1.gX b,f.o.2.2.2.1.gX oM b,by rw[ld ae];exact f.o.2.2.2.2.1,f.o.2.2.2.2.2.1.gX b,aS.o (L++[b]) (λ_=>.inr sP) (λz hz=>kS.2 (.inl hz))⟩);exact oI
         simp only[hc]at s0;have au:b=h\/b∈L:=by simpa using hc
         go_wp2;go_quiet (fail);refine A3 (λu=>Aa (L2 w A u n p (λx=>(h::L).contains x) (sG s L cl) L)) (f.o.1.bM (As _ _ _)) ?_;intro U t;go_wp2;go_roundw;(case rel=>exact⟨L,m+1,s,cl,rfl,by go_num,oM,ae,I,t.o,f.o.2.1,f.o.2.2.1,f.o.2.2.2.1,f.o.2.2.2.2.1,f.o.2.2.2.2.2.1,aS.o L (λ_=>au) (λz hz=>hz)⟩);exact oI
       have eI:((y:Int)==(x:Int))=false:=oT;go_wp2;go_quiet (fail);refine A3 (λu=>Aa (L2 w A u n p (λx=>(h::L).contains x) (sG s L cl) L)) (f.o.1.bM (As _ _ _)) ?_;intro U t;go_wp2;go_roundw;(case rel=>exact⟨L,m+1,s,cl,rfl,by go_num,oM,ae,I,t.o,f.o.2.1,f.o.2.2.1,f.o.2.2.2.1,f.o.2.2.2.2.1,f.o.2.2.2.2.2.1,aS.o L (λq=>absurd q.symm e) (λz hz=>hz)⟩);exact oI
     obtain rfl:m=(E b).length:=oM;have HN:=Ap (f.o.2.2.2.2.2.1.next (by have:=f.o.2.2.2.2.2.2;rw[lu lR]at this;exact this));go_wp2;go_roundw;(case rel=>exact⟨L,b+1,s,cl,rfl,by go_num,oM,ae,I,f.o.1,f.o.2.1,f.o.2.2.1,f.o.2.2.2.1,f.o.2.2.2.2.1,HN.o⟩);exact oI
   have aQ:b=n:=oM;have bL:¬(b:Int)<(n:Int):=oM;have HN:=Ap (f.o.2.2.2.1.next f.o.2.2.2.2.1 (by have:=f.o.2.2.2.2.2;rw[aQ]at this;exact this));go_wp2;go_roundw;(case rel=>exact⟨L,i+1,s,cl,rfl,by go_num,oM,I,f.o.1,f.o.2.1,f.o.2.2.1,HN.o⟩);exact oI
 obtain rfl:i=L.length:=oM;have bC:Aa (∀x,(h::L).contains x=Lf h x):= λx=>by rw[n9,f.o.2.1.iff f.o.2.2.1 f.o.2.2.2 x,H.o.2.2.2.2 x]
 go_upto_region 31 with fail
 obtain⟨w2,bS⟩:∃W,W=wr:=⟨_,rfl⟩;subst bS;have aM:Aa (L4 w w2 w2 n h ((w:Nat)+1) p (Z aB B cB) sN [] (Lf h)):=by have bk:=f.o.1.gR l.o.gR (Ne.symm aW);refine⟨f.o.1.gR l.o.im (Ne.symm bH),bk,f.o.1.ii.congr λj _=>bC.o j,lq _ _ _ _, λk hk _=>rfl,f.o.1.gG,Nat.le_refl _,bk.lt⟩
 have HBR:Aa (Gj w2 w (Z aB B cB) B):=by obtain⟨_,bi,h1⟩:=AD l.o.ii;exact l.o.back.fx f.o.1.fx (Bu l.o.back h1 dC)
 have HNE:Aa (∀gg,(Z aB B cB).ownBlock=K gg->gg≠ ↑w+1/\gg≠ ↑w):= λgg aG=>⟨HBR.o.jg aM.o.gR dC gg aG,HBR.o.jg aM.o.im dC gg aG⟩
 go_wp2;go_loopw [16] (λi wr=>∃(b:Nat) (Q:J),b<=n/\i=iZ b/\(B.length=0->b=0)/\Aa (L4 w w2 wr n h ((w:Nat)+1) p (Z aB B cB) Q ((List.range b).filter (Lf h)) (Lf h))) (λi _=>n-(intOf i).toNat)
 case atStart=>exact⟨0,_,oM,rfl, λ_=>rfl,aM⟩
 obtain⟨b,Q,hb,rfl,bZ,f⟩:=hrel;have t1:wr.cell? ⟨(w:Nat)+1,1,M⟩=K (Z aB B cB):=f.o.gR.cell 1;by_cases bG:b<n/\0<B.length
 . obtain⟨am,hp⟩:=bG;have aA:(b:Int)<(n:Int):=oM;have bP:(0:Int)<(B:Int):=oM;have s0:=f.o.ii.cell am;cases hc:Lf h b
   . rw[hc]at s0;(have HN:Aa (L4 w w2 wr n h ((w:Nat)+1) p (Z aB B cB) Q ((List.range (b+1)).filter (Lf h)) (Lf h)):=by show L4 _ _ _ _ _ _ _ _ _ _ _;rw[m9,mr];simp only[nY,hc,oC,nw,if_false,nA];exact f.o);go_wp2;go_roundw;(case rel=>exact⟨b+1,Q,oM,by go_num, λq=>oM,HN⟩);exact oI
   rw[hc]at s0;obtain⟨aK,cK,rfl⟩:=Az f.o.row;(have bJ:((List.range b).filter (Lf h)).length<=1024:=by have:=mc (Lf h) (List.range b);simp only[mS]at this;omega);generalize aR:(List.range b).filter (Lf h)=N at f bJ;have HK:=Ap aR;(go_upto_region 35 with fail);refine An (λu=>Aa (L4 w w2 u n h ((w:Nat)+1) p (Z aB B cB) (Z aK N cK) N (Lf h))) f ?_;intro U t;have t2:U.cell? ⟨(w:Nat)+1,2,M⟩=K (Z aK N cK):=t.o.gR.cell 2;go_wp2_with (at_builtin;refine wpList_append_lies _ rfl _ _ 36 rfl w2 2 k0 (iZ 0) 1 8 Tryz.underlying36 hk aH aI aJ rfl dC _ N (nv N) rfl (t.o.al (.cells #[iZ (b:Int)] 2)).1 U 1 1 [iZ (b:Int)] rfl rfl (BP U (b:Int)) (λu O=>by simp at O;subst O;rfl) oM (by simp[maxLen];omega) oM (t.o.al (.cells #[iZ (b:Int)] 2)).2 _ rfl ?_;intro F C S hown hgrow hat aX;obtain⟨ah,l5⟩:=t.o.gX (oU _) hown hgrow;have a8:Aa (L4 w w2 (S.setCell ⟨(w:Nat)+1,2,M⟩ (sG F (N.length+1) C)) n h ((w:Nat)+1) p (Z aB B cB) (sG F (N.length+1) C) (N++[b]) (Lf h)):=l5;have t5:S.cell? ⟨(w:Nat)+1,2,M⟩=K (Z aK N cK):=ah.cell 2;have z5:=ah.frozen 2;clear hown hgrow hat aX ah l5);(have HN:Aa (L4 w w2 (S.setCell ⟨(w:Nat)+1,2,M⟩ (sG F (N.length+1) C)) n h ((w:Nat)+1) p (Z aB B cB) (sG F (N.length+1) C) ((List.range (b+1)).filter (Lf h)) (Lf h)):=by show L4 _ _ _ _ _ _ _ _ _ _ _;rw[m9,mr,HK.o];simp only[nY,hc,oC,if_true];exact a8.o);go_roundw;(case rel=>exact⟨b+1,_,oM,by go_num, λq=>oM,HN⟩);exact oI
 have HN:Aa (L4 w w2 wr n h ((w:Nat)+1) p (Z aB B cB) Q ((List.range b).filter (Lf h)) (Lf h)/\Gj wr w (Z aB B cB) B/\(B≠[]->b=n)):=by refine⟨f.o,HBR.o.fx f.o.fx λgg aG=>(HNE.o gg aG).1, λq=> ?_⟩;have:=nV.2 q;omega
 obtain⟨aK,cK,rfl⟩:=Az f.o.row;have t0:wr.cell? ⟨(w:Nat)+1,0,M⟩=K (iZ (h:Int)):=f.o.gR.cell 0;have t2:wr.cell? ⟨(w:Nat)+1,2,M⟩=K (Z aK ((List.range b).filter (Lf h)).length cK):=f.o.gR.cell 2;have r0:wr.cell? w=K (iZ 0):=f.o.im.cell 0;have r1:wr.cell? ⟨w,1,M⟩=K sN:=f.o.im.cell 1;have r2:wr.cell? ⟨w,2,M⟩=K sN:=f.o.im.cell 2;have f0:=f.o.im.frozen 0;have f1:=f.o.im.frozen 1;have f2:=f.o.im.frozen 2;by_cases aU:b<n
 . have aA:(b:Int)<(n:Int):=oM;have bP:¬(0:Int)<(B:Int):=oM;exact Py
 have aA:¬(b:Int)<(n:Int):=oM;exact Py
theorem CU.grow{n:Y}{A B:List (J×List Int)}{l l':List Int}(h:CU w base (A++(V,l)::B))(z:n.ownsRow base 2 1 V' l' (l'.flatMap Ah))(u:V'.ownBlock=K g)(p:w.grownBy n V.ownBlock)(v:V.ownBlock=K g\/ ↑w<=g):CU n base (A++(V',l')::B):=by
 obtain⟨C,D,m⟩:=mP.1 h.sep;obtain⟨t,E⟩:=mH.1 D;have r:∀x:J×List Int,x∈A++(V,l)::B->IG x (V,l)->IG x (V',l'):= λx f i F q e=>by
  rw[u]at e;have e:=kN e;subst e;rcases v with h1|h1
  . exact i _ q h1
  have:=((h.own x f).lt _ q).2;omega
 refine⟨λx f=> ?_,mP.2 ⟨C,mH.2 ⟨λy s=>(r y (by simp[s]) (t y s).symm).symm,E⟩, λa i b j=> ?_⟩⟩
 . rcases kS.1 f with f|f
   . exact BG (h.own x (kS.2 (.inl f))) p (λg k e=>m x f (V,l) sP g k e.symm)
   rcases lA.1 f with rfl|f
   . exact z
   exact BG (h.own x (kS.2 (.inr (lX _ f)))) p (λg k e=>t x f g e.symm k)
 rcases lA.1 j with rfl|j
 . exact r a (by simp[i]) (m a i (V,l) sP)
 exact m a i b (lX _ j)
theorem CU.ir(h:CU u B L)(b:Ad u u a):CU a B L:=⟨λr e=>Am (h.own r e) b lR,h.sep⟩
theorem CU.join(h:CU u B L)(n:Ad u u i)(k:i.ownsRow u 2 1 b cb (cb.flatMap Ah))(l:B<= ↑u):CU i B (L++[(b,cb)]):=by
 refine⟨λx f=> ?_,mP.2 ⟨h.sep,sP, λa m c j g p e=> ?_⟩⟩
 . rcases kS.1 f with f|f
   . exact Am (h.own x f) n lR
   simp only[lA,lW,mZ]at f;subst f;exact Ba k l
 simp only[lA,lW,mZ]at j;subst j;have h1:=((h.own a m).lt g p).2;have h2:=(k.lt g e).1;omega
theorem CU.ko{c:J}{j:List Int}(h:CU u B L)(q:Ad u u i)(m:i.ownsRow u 2 1 b cb (cb.flatMap Ah))(l:i.ownsRow u 2 1 c j (j.flatMap Ah))(s:∀g,b.ownBlock=K g->c.ownBlock≠K g)(k:B<= ↑u):CU i B (L++[(b,cb),(c,j)]):=by
 refine⟨λx f=> ?_,mP.2 ⟨h.sep,by simpa[IG]using s, λa p y n g r e=> ?_⟩⟩
 . rcases kS.1 f with f|f
   . exact Am (h.own x f) q lR
   simp only[lA,lW,mZ]at f;rcases f with rfl|rfl
   . exact Ba m k
   exact Ba l k
 simp only[lA,lW,mZ]at n;have h1:=((h.own a p).lt g r).2;rcases n with rfl|rfl
 . have h2:=(m.lt g e).1;omega
 have h2:=(l.lt g e).1;omega
theorem CU.other{b:Nat}{a:Array J}(h:CU w base L)(e:Ar w b a t)(f:2≠t)(i:Nat)(x:J):CU (w.setCell ⟨b,i,M⟩ x) base L:=h.set e f i x
theorem CU.i6{m:Nat}{v:J}{e:Af}{b:List J}(h:CU w base L)(f:w.grownBy a v.ownBlock)(i:w.ownsRow B e k v m b)(g:2≠e):CU a base L:=⟨λx j=>BU (h.own x j) f i g,h.sep⟩
def BS(x:ML×J×J):List J:=[iZ x.1.head,x.2.1,x.2.2]
theorem CA(x:ML×J×J):(BS x).length=3:=rfl
def UQ(w:Y)(x:ML×J×J):Prop:=Rd w 1 x.2.1 x.1.back (x.1.back.flatMap Ah)/\Rd w 1 x.2.2 x.1.ej (x.1.ej.flatMap Ah)
def NY(w:Y)(s:J)(b:List ML):Prop:=∃a:List (ML×J×J),a.map Prod.fst=b/\Rd w 3 s b (a.flatMap BS)/\∀y∈a,UQ w y
theorem NY.bM{g:List ML}(h:NY w s g)(b:Ad B w i)(a: ↑w<=B):NY i s g:=by obtain⟨j,h1,h2,e⟩:=h;exact⟨j,h1,h2.bM b a, λy f=>⟨(e y f).1.bM b a,(e y f).2.bM b a⟩⟩
theorem NY.nil(w:Y):NY w sN []:=⟨[],rfl,⟨rfl,.inl ⟨rfl,_,_,rfl⟩⟩, λy a=>by cases a⟩
def Eu(a:List (ML×J×J)):List (J×List Int):=a.flatMap λy=>[(y.2.1,y.1.back),(y.2.2,y.1.ej)]
def iv(f:Nat->Nat)(n:Nat):List J:=(List.range n).map λi=>Ac Ab (f i:Int)
theorem JB(f:Nat->Nat)(n:Nat):(iv f n).length=n:=by simp[iv]
theorem Ms(f:Nat->Nat)(n i:Nat)(h:i<n):(iv f n)[i]?=K (iZ (f i:Int)):=by simp[iv,h]
theorem TF{f g:Nat->Nat}{i:Nat}(h:∀j,j<n->g j=if j=i then x else f j):(iv f n).set i (iZ (x:Int))=iv g n:=by
 apply mV;intro j;by_cases a:j<n
 . rw[Ms _ _ _ a,h j a];by_cases e:j=i
   . subst e;rw[mG (by rw[JB];exact a),lS rfl]
   rw[mC oM,Ms _ _ _ a,lE e]
 rw[lB (by simp[JB];omega),lB (by rw[JB];omega)]
theorem Ro(n:Nat):(madeCells (Ac Ab 0).cells (n*1)).toList=iv (λ_=>0) n:=by
 rw[Jg n (λ_=>[]) []];simp[CJ,iv,List.flatten_replicate_singleton];apply mV;intro j;by_cases a:j<n
 . simp[a]
 rw[lB oT,lB oT]
def K8(O:List Nat)(k x:Nat):Nat:=if(O.reverse.take k).contains x then DF O x else 0
theorem MJ(O:List Nat):K8 O 0= λ_=>0:=by funext x;simp[K8]
theorem O9(O:List Nat)(x:Nat)(h:x∈O):K8 O O x=DF O x:=by unfold K8;rw[lu sP,lS (by simpa using h)]
theorem MH(f:O.Nodup)(l:O.reverse[k]?=K x)(n:Nat):∀j,j<n->K8 O (k+1) j=if j=x then k else K8 O k j:= λj _=>by
 obtain⟨a,e⟩:=iV.1 l;have g:O.reverse.Nodup:=List.pairwise_reverse.2 (f.imp Ne.symm);have i:DF O x=k:=by
  have h:x∈O:=by rw[<-mT,<-e];exact mW a
  have h1:=JH h;obtain⟨m,b⟩:=iV.1 h1;exact(List.getElem_inj g).1 (b.trans e.symm)
 unfold K8;rw[lH a,e];by_cases q:j=x
 . subst q;rw[lS sP,lS rfl,i]
 rw[lE q];have:(O.reverse.take k++[x]).contains j=(O.reverse.take k).contains j:=by simp[q]
 rw[this]
theorem Vn:(Tryz.prog.info? 3).map (λi=>(i.zero,i.size,i.bytes))=K (K (iZ 0),1,8):=kR
structure PC(w u:Y)(n X gp:Nat)(Vb Vo:J)(O:List Nat)(k:Nat):Prop where
 gR:Ar u X #[iZ 0,iZ 0,Vb,Vo,sN,sN] 45
 place:u.ownsRow w 3 1 (sG gp n n) n (iv (K8 O k) n)
 gJ:Gj u w Vo (O.reverse.take k)
 gG:Ad w w u
 lt: ↑w<=X
theorem PC.bM{g:Y}(h:PC w u n X f b e O k)(a:Ad u u g):PC w g n X f b e O k:=⟨h.gR.bM a,Am h.place a lR,h.gJ.bM a,Ai h.gG lR a,h.lt⟩
structure PD(w u:Y)(n X gp:Nat)(Vb Vo:J)(O:List Nat)(k:Nat):Prop where
 gR:Ar u X #[iZ 0,iZ 0,Vb,Vo,sN,sN] 45
 place:u.ownsRow w 3 1 (sG gp n n) n (iv (K8 O (k+1)) n)
 gJ:Gj u w Vo (O.reverse.take k)
 gG:Ad w w u
 lt: ↑w<=X
theorem PD.bM{g:Y}(h:PD w u n X f b e O k)(a:Ad u u g):PD w g n X f b e O k:=⟨h.gR.bM a,Am h.place a lR,h.gJ.bM a,Ai h.gG lR a,h.lt⟩
theorem FK{b:Nat}{a:Array J}{e:Af}{xs:List J}(f:Ar w b a t)(h:w.ownsRow base e k s n xs)(g:e≠t):s.ownBlock≠K b:= λq=>Bu h f g b q rfl
theorem PC.set{a:Nat}{f:J}(h:PC w u n X a b f O k)(g:O.Nodup)(i:O.reverse[k]?=K x):PD w (u.setCell ⟨a,x,M⟩ (iZ (k:Int))) n X a b f O k:=by refine⟨h.gR.other (λe=>FK h.gR h.place dC (by rw[e];rfl)) _,?_,BW h.gJ h.place dC _ _,h.gG.setCell (AD h.place).1 _,h.lt⟩;have:=(h.place.stored x (iZ (k:Int))).1;rw[TF (MH g i n)]at this;exact this
theorem PD.al{e:Nat}{a:J}(h:PD w u n X e b a O k):u.ownsRow w 2 1 a (O.reverse.take k).length (nv (O.reverse.take k))/\(w:Nat)<=u.heap.size:=⟨h.gJ,h.gG.size⟩
theorem PD.gX{b:Y}{l:Nat}{g:J}(h:PD w u n X l g j O k)(v:O.reverse[k]?=K x)(p:b.ownsRow w 2 1 V' ((O.reverse.take k).length+1) (nv (O.reverse.take k)++[iZ (x:Int)]))(m:u.grownBy b j.ownBlock):Ar b X #[iZ 0,iZ 0,g,j,sN,sN] 45/\PC w (b.setCell ⟨X,3,M⟩ V') n X l g V' O (k+1):=by
 have f:=h.gR.grown m h.gJ dC;have q:b.ownsRow w 3 1 (sG l n n) n (iv (K8 O (k+1)) n):=BU h.place m h.gJ dC;have r:Ad w w b:=h.gG.grown m h.gG.size (λi s=>(h.gJ.lt i s).1);refine⟨f,?_,kO q (a:=⟨X,3,M⟩) (FK f q dC) _,?_,r.setCell h.lt _,h.lt⟩
 . have:=f.set 3 V';simpa using this
 obtain⟨t,e⟩:=iV.1 v;unfold Gj;rw[lH t,e,FN,kJ,kQ];exact kO p (a:=⟨X,3,M⟩) (FK f p dC) _
theorem Nm (G n N cN C Q D B A F:Nat)(E:Nat->List Nat)(O:List Nat)(w:Y)(hn:n<=1024)(hP:DI E n (DF O))(hO: ↑O=n)(aS:O.Nodup)(aE:∀x,x∈O↔x<n)(bf:∀b,(BF E n b).length<=4096)
 (bH:n<=B) (h:Ar w G #[sG N n cN,sG C n Q,sG D n B,sG A n F,sN] 134) (hF:FR w C 0 n (BF E n)) (aT:∀k x:Nat,O.reverse[k]?=K x->w.cell? ⟨D,k,M⟩=K (iZ (x:Int))) (aU:∀x,x<n->w.cell? ⟨A,x,M⟩=K (iZ (DF O x:Int)))
 (au:N≠G/\C≠G/\D≠G/\A≠G/\∀b a c,b<n->w.cell? ⟨C,b,M⟩=K (Z (K a) (BF E n b).length c)->a.block≠G):
 Ae Tryz.prog 62 #[.pointer G] w λe w'=>e=.returned (.tuple #[])/\∃s I,DW w w' G n #[sG N n cN,sG C n Q,sG D n B,sG A n F] s I/\NR E n (DF O) I:=by
 obtain⟨K0,aR⟩:=SH E n;obtain⟨L,bF,hK⟩:∃L,1<=L/\∀e,e<n->∀x,x<n->Er E (· ≠e) 0 x->FJ E (· ≠e) 0 L x:=⟨K0+1,oM, λe he x f hr=>(aR e he x f hr).mono oM⟩
 have H:=Ap (ji h (ji hF (ji aT (ji aU au))));have l:=Ap (ji hP (ji aS (ji aE (ji bf (ji hK ((λx f=>by have:=WW ((aE x).2 f);omega):(∀x,x<n->DF O x<n)))))));have bq:=hP.pos;have aQ:=h.lt;clear h hF aT aU au hP aS aE bf hK aR;have c0:(w.alloc (.cells #[iZ (-1)] 2)).cell? G=K (sG N n cN):=(H.o.1.bM (Ag _ _)).cell 0;go_enter Tryz.func62,Tryz.ntmps62;go_wp2_with fail;refine(QT w n _ bq hn ((Ar.new w #[iZ (-1)] 2).cell 0)).mono ?_;rintro e u1 ⟨s,rfl,aH,b1⟩;rw[Xe]at aH;have bA:=Ag w (.cells #[iZ (-1)] 2);have k1:=(H.o.1.bM bA).bM b1;have d4:u1.cell? ⟨G,4,M⟩=K sN:=k1.cell 4;have z4:=k1.frozen 4;have aI:Aa (DW w (u1.setCell ⟨G,4,M⟩ (sG s n n)) G n #[sG N n cN,sG C n Q,sG D n B,sG A n F] s (λ_=> -1)):=by
  have aF:Ad w w u1:=Ai bA lR b1;have bg:=Ba aH (b:=w) bA.size;have S:=(AD bg).1;refine⟨⟨_,_,_,_,rfl,?_⟩,kO bg (a:=⟨G,4,M⟩) (by simp[Value.ownBlock];omega) _, λk hk au=> ?_,(aF.mono (nM aQ)).setCell lR _,by rw[mB];exact aF.size,aQ⟩
  . have:=k1.set 4 (sG s n n);simpa using this
  rw[lZ u1 _ k _ au];exact aF.block k hk
 clear aH b1 bA k1 c0;have ao:Aa (JT E n (DF O) 0 1 (λ_=> -1)):=⟨II.start (λ_=>rfl),LI.start l.o.1 (λ_=>rfl), λx f hl=>by
  by_cases e:x=0
  . exact .inl e
  have:=l.o.1.gK x f e;omega,.inl rfl,rfl⟩
 go_wp2;go_loopg [2] (L+2) (λm v wr=>∃(t:Bool) (I:Nat->Int) (k:Nat),v=.bool t/\Aa (DW w wr G n #[sG N n cN,sG C n Q,sG D n B,sG A n F] s I)/\((t=true/\m+k=L+2/\k<=L/\Aa (JT E n (DF O) k 1 I))\/(t=false/\Aa (NR E n (DF O) I))))
 case atStart=>exact⟨true, λ_=> -1,0,rfl,aI,.inl ⟨rfl,rfl,oM,ao⟩⟩
 clear aI ao d4 z4;obtain⟨t,I0,k,rfl,HD,bi⟩:=hrel;rcases bi with⟨rfl,hm,bI,ao⟩|⟨rfl,aw⟩
 . obtain ⟨w0,br⟩:∃W,W=wr:=⟨_,rfl⟩;subst br;(have o2:w0.cell? ⟨G,2,M⟩=K (sG D n B):=by obtain⟨x0,x1,x2,x3,e,kk⟩:=HD.o.gR;simp only[Array.mk.injEq,oj,mg]at e;obtain⟨rfl,rfl,rfl,rfl⟩:=e;exact kk.cell 2);(go_upto_region 4 with fail);go_cut [21,22,23]from 17 to 22 (λsv lv iv wx=>∃a c,sv=Z a (n-1) c/\(1<n->a=K ⟨D,1,M⟩)/\lv=iZ ((n-1:Nat):Int)/\iv=iZ 0/\wx=w0)
   case first=>
    by_cases aG:B=1
    . subst aG;obtain rfl:n=1:=oM;go_wp2;go_meet;exact⟨_,_,rfl, λq=>oM,rfl,rfl,rfl⟩
    have aW:1<B:=oM;go_wp2;go_meet;exact⟨_,_,rfl, λq=>rfl,by go_num,rfl,rfl⟩
   case rest=>
    obtain⟨bz,bB,rfl,ha,rfl,rfl,am⟩:=hcut;rw[am];clear am o2;have aJ:Aa (∀(U:Y) (J:Nat->Int),DW w U G n #[sG N n cN,sG C n Q,sG D n B,sG A n F] s J->GI U G n A F s n (DF O) J/\U.cell? ⟨G,1,M⟩=K (sG C n Q)):= λU J hU=>by obtain⟨x0,x1,x2,x3,e,kk⟩:=hU.gR;simp only[Array.mk.injEq,oj,mg]at e;obtain⟨rfl,rfl,rfl,rfl⟩:=e;refine⟨⟨kk.cell 3,kk.cell 4, λx f=>hU.cell (H.o.2.2.2.1 x f) H.o.2.2.2.2.2.2.2.1, λx f=> ?_⟩,kk.cell 1⟩;have:=hU.row.cellAt x oM;rw[PS _ _ _ f]at this;exact this
    go_wp2;go_loopw [2,23] (λv i wr=>∃(t:Bool) (J:Nat->Int) (j:Nat),v=.bool t/\i=iZ (j:Int)/\j+1<=n/\Aa (DW w wr G n #[sG N n cN,sG C n Q,sG D n B,sG A n F] s J/\JT E n (DF O) k (j+1) J/\(t=false->J=I0/\∀b,b<n->b≠0->DF O b<j+1->Bj n J (BF E n b) (J b))/\(L<=k->t=false))) (λ_ i _=>n-(intOf i).toNat)
    (case atStart=>exact⟨false,I0,0,rfl,rfl,oM,HD.o,ao.o, λ_=>⟨rfl, λb R ae hl=>by have:=l.o.1.gK b R ae;omega⟩, λ_=>rfl⟩);obtain⟨t,J,j,rfl,rfl,hj,g⟩:=hrel;by_cases bJ:j<n-1
    . have bp:(j:Int)<((n-1:Nat):Int):=oM;obtain rfl:=ha oM;obtain⟨b,R⟩:∃b,O.reverse[j+1]?=K b:=⟨_,an (by rw[mF];omega)⟩;have aq:b∈O:=mT.1 (i8 R);have ah:b<n:=(l.o.2.2.1 b).1 aq;have bG:(b:Int)<(n:Int):=oM;(have aZ:DF O b=j+1:=by have h1:=JH aq;have hd:O.reverse.Nodup:=List.pairwise_reverse.2 (l.o.2.1.imp Ne.symm);obtain⟨l1,e1⟩:=iV.1 h1;obtain⟨l2,e2⟩:=iV.1 R;exact(List.getElem_inj hd).1 (e1.trans e2.symm));(have ae:b≠0:= λq=>by have:=l.o.1.zero;rw[q]at aZ;omega);have ob:=g.o.1.cell (H.o.2.2.1 (j+1) b R) H.o.2.2.2.2.2.2.1;rw[Nat.add_comm]at ob;obtain⟨S,f1⟩:=aJ.o _ _ g.o.1;obtain⟨af,cf,e0,e1⟩:=H.o.2.1 b ah;rw[lY]at e0;(have aP:Aa (Iu wr (Z af (BF E n b).length cf) (BF E n b)):=by refine⟨e1.1,e1.2.imp id ?_⟩;rintro⟨g',o',c',q1,q2⟩;refine⟨g',o',c',q1, λjj v hv=>g.o.1.cell (q2 jj v hv) ?_⟩;simp only[jc,lO]at q1;exact H.o.2.2.2.2.2.2.2.2 b ⟨g',o',M⟩ cf ah (by rw[e0,q1.1]));have f2:=g.o.1.cell e0 H.o.2.2.2.2.2.1;have aM:Aa (GI wr G n A F s n (DF O) J):=S;have HB:=Ap (ji aq aZ);clear e0 e1 S R aq;go_wp2_with fail;refine(Nj G n A F s n (DF O) J _ (BF E n b) wr hn g.o.2.1.i7.tree l.o.1.zero l.o.1.inj (λp hp=>((ES E n b p).1 hp).1) (l.o.2.2.2.1 b) aP.o aM.o).mono ?_;rintro e u5 ⟨z,rfl,hz,b5⟩;have aA:Aa (DW w u5 G n #[sG N n cN,sG C n Q,sG D n B,sG A n F] s J):=g.o.1.bM b5;obtain⟨S,bC⟩:=aJ.o _ _ aA.o;have i4:=S.i;have ib:=S.ic b ah;have iz:=aA.o.row.frozenAt b;obtain⟨J',aD⟩:∃J':Nat->Int,∀y,J' y=if y=b then z else J y:=⟨_, λy=>rfl⟩
      have HN:Aa (DW w (u5.setCell ⟨s,b,M⟩ (iZ z)) G n #[sG N n cN,sG C n Q,sG D n B,sG A n F] s J'/\JT E n (DF O) k (j+1+1) J'/\(z=J b->J'=J)/\Bj n J (BF E n b) z/\(L<=k->z=J b)):=by
       refine⟨aA.o.set b z aD,g.o.2.1.step l.o.1 ah ae HB.o.2 hz aD, λq=> ?_,hz, λaY=> ?_⟩
       . (funext y);rw[aD y];by_cases e:y=b
         . rw[lS e,q,e]
         rw[lE e]
       have a8:∀x,x<n->Kn J x:=g.o.2.1.all.resolve_left oM;refine UZ l.o.1 g.o.2.1.i7 a8 (λx f d hd hr=> ?_) ah ae (G9 E n b) hz;have bj:=(hd.iN g.o.2.1.i7.tree f).2.2;exact(g.o.2.1.ki x f (a8 x f) d hd).1 ((l.o.2.2.2.2.1 d bj x f hr).mono aY)
      clear S hz b5 aM aP f1 f2 ob;(go_upto_region 8 with fail);go_cut [2]from 36 to 47 (λc wx=>(∃c':Bool,c=.bool c'/\(c'=false->t=false/\z=J b)/\(t=false->z=J b->c'=false))/\wx=u5)
      case first=>
       cases t
       . by_cases aj:z=J b
         . (have bu:(z != J b)=false:=by simp[aj]);have HZ:Aa (z=J b):=aj;clear aj;go_wp2;go_meet;exact⟨⟨_,rfl, λ_=>⟨trivial,HZ.o⟩, λ_ _=>rfl⟩,rfl⟩
         (have bu:(z != J b)=true:=by simp[aj]);have HZ:Aa (¬z=J b):=aj;clear aj;go_wp2;go_meet;exact⟨⟨_,rfl,(λq=>(by cases q)),(λ_ q=>absurd q HZ.o)⟩,rfl⟩
       go_wp2;go_meet;exact⟨⟨_,rfl,(λq=>(by cases q)),(λq=>(by cases q))⟩,rfl⟩
      case rest=>
       obtain⟨⟨c',rfl,aG,aW⟩,am⟩:=hcut;rw[am];clear am;go_wp2;go_roundw;case rel=>
        refine⟨c',J',j+1,rfl,by go_num,oM,HN.o.1,HN.o.2.1, λq=> ?_, λq=>aW (g.o.2.2.2 q) (HN.o.2.2.2.2 q)⟩;obtain⟨q1,q2⟩:=aG q;obtain⟨r1,r2⟩:=g.o.2.2.1 q1;have r3:=HN.o.2.2.1 q2;refine⟨r3.trans r1, λy hy bt hl=> ?_⟩;rw[r3];by_cases e:y=b
        . rw[e,<-q2];exact HN.o.2.2.2.1
        refine r2 y hy bt ?_;have h1:=l.o.1.inj y b hy ah;have h2:=HB.o.2;omega
       case measure=>exact oI
    have aX:j+1=n:=oM;have bp:¬(j:Int)<((n-1:Nat):Int):=oM;have T:Aa (JT E n (DF O) (k+1) 1 J/\∀x,x<n->Kn J x):=by have h0:=g.o.2.1;rw[aX]at h0;(have a8:∀x,x<n->Kn J x:= λx f=>h0.kn x f (l.o.2.2.2.2.2 x f));exact⟨⟨h0.i7,h0.ki.pass l.o.1 l.o.2.2.2.2.2, λx f _=>a8 x f,.inr a8,h0.z⟩,a8⟩
    cases t
    . (have aw:Aa (NR E n (DF O) J):=by obtain⟨_,q2⟩:=g.o.2.2.1 rfl;refine⟨T.o.1.i7,T.o.2, λd x f=>Vc l.o.1 T.o.1.i7 T.o.2 (BF E n) (λb _=>G9 E n b) (λb R ae=>q2 b R ae (by rw[aX];exact l.o.2.2.2.2.2 b R)) f,T.o.1.z⟩);go_wp2;go_roundg 0;(case measure=>omega);exact⟨false,J,0,rfl,g.o.1,.inr ⟨rfl,aw⟩⟩
    . have aY:k<L:=by
       by_cases q:L<=k
       . have:=g.o.2.2.2 q;cases this
       omega
      go_wp2;go_roundg (gk-1);(case measure=>omega);exact⟨true,J,k+1,rfl,g.o.1,.inl ⟨rfl,oM,oM,T.o.1⟩⟩
 go_wp2;go_end0;exact⟨rfl,s,I0,HD.o,aw.o⟩
def NQ(xs:List MI)(a:List MB):Prop:=(¬AH xs/\a=[])\/AH xs/\a=At xs
theorem NQ.one{a b:List MB}(h:NQ xs a)(e:NQ xs b):a=b:=by
 rcases h with⟨h1,rfl⟩|⟨h1,rfl⟩<;>rcases e with⟨h2,rfl⟩|⟨h2,rfl⟩
 . rfl
 . exact absurd h2 h1
 . exact absurd h1 h2
 rfl
theorem NQ.small{b:List MB}(h:NQ xs b):b.length<=1048576/\∀f∈b,f.small:=by
 rcases h with⟨h1,rfl⟩|⟨h1,rfl⟩
 . exact⟨sP, λf a=>(by cases a)⟩
 refine⟨?_,?_⟩
 . unfold At;rw[kW,BH];have:=mc (BO xs xs) (List.range xs);have h2:=h1.2.1;simp only[mS]at this;exact kT this oM
 intro f a;unfold At at a;obtain⟨m,_,rfl⟩:=lK.1 a;show(DY xs m).next.length<=1048576;simp only[DY,DA];split<;>split<;>simp
theorem GX.rd(h:GX w base V F):Ic w V (F.map Prod.fst):=by refine⟨F,rfl,?_, λx a=>Rd.gM (h.gW.own (x.2,x.1.next) (by unfold DP;exact oY (f:= λx=>(x.2,x.1.next)) a))⟩;rw[kW];exact Rd.gM h.row
theorem GX.bM{b:Y}(h:GX w base V F)(a:Ad w w b):GX b base V F:=⟨Am h.row a lR,h.gW.bM a⟩
structure PF(w6 u:Y)(X:Nat)(Vb Vo Vi:J)(Is:List Int)(Vl:J)(ys:List (ML×J×J)):Prop where
 gR:Ar u X #[iZ 0,iZ 0,Vb,Vo,Vi,Vl] 45
 gW:CU u w6 ((Vi,Is)::Eu ys)
 iE:u.ownsRow w6 95 3 Vl ys (ys.flatMap BS)
 fx:∀k,k< ↑w6->k≠X->u.heap[k]?=w6.heap[k]?
 size:(w6:Nat)<= ↑u
 gG:Ad X w6 u
 lt:X< ↑w6
theorem PF.bM{l:Y}{i f g:J}{b:List Int}{n:List (ML×J×J)}(h:PF m u X e i f b g n)(a:Ad u u l):PF m l X e i f b g n:=⟨h.gR.bM a,h.gW.ir a,Am h.iE a lR, λk j p=>by rw[a.block k (lm j h.size)];exact h.fx k j p,kT h.size a.size,h.gG.trans (a.mono (by have:=h.lt;have:=h.size;omega)),h.lt⟩
theorem PF.cell{e:Y}{g k i:J}{f:List Int}{m:List (ML×J×J)}(h:PF e u X g k i f j m){a:Addr}{x:J}(b:e.cell? a=K x)(l:a.block≠X):u.cell? a=K x:=by have:=h.fx a.block (jC b) l;unfold World.cell? at*;rw[this];exact b
theorem PF.gS{f:Y}{t:J}{b:List Int}{n:List (ML×J×J)}{z:Int}(h:PF m u X s t l b p n)(E:f.ownsRow m 2 1 (sG g (b.length+1) cap) (b.length+1) (b.flatMap Ah++[iZ z]))(j:u.grownBy f l.ownBlock)(C:l.ownBlock=K g\/g= ↑u):Ar f X #[iZ 0,iZ 0,s,t,l,p] 45/\PF m (f.setCell ⟨X,4,M⟩ (sG g (b.length+1) cap)) X s t (sG g (b.length+1) cap) (b++[z]) p n:=by
 have r:=h.gW.own (l,b) (ln ..);have q:=h.gR.grown j r dC;have B:f.ownsRow m 95 3 p n (n.flatMap BS):=BU h.iE j r dC;have F:CU f m ((sG g (b.length+1) cap,b++[z])::Eu n):=by have:=CU.grow (A:=[]) (l':=b++[z]) (V':=sG g (b.length+1) cap) (g:=g) h.gW (by rw[kJ,kQ,lJ];exact E) rfl j (C.imp id λe=>oM);simpa using this
 refine⟨q,?_,F.other q dC 4 _,kO B (a:=⟨X,4,M⟩) (FK q B dC) _, λk v y=> ?_,?_,?_,h.lt⟩
 . have:=q.set 4 (sG g (b.length+1) cap);simpa using this
 . rw[lZ f _ k _ y,j.block k (lm v h.size) (λe=>by have:=(r.lt k e.symm).1;omega)];exact h.fx k v y
 . rw[mB];exact kT h.size j.size
 exact(h.gG.grown j (by have:=h.lt;have:=h.size;omega) (λi D=>by have:=(r.lt i D).1;have:=h.lt;omega)).setCell lR _
theorem PF.loop{t s n:Y}{A C B:J}{v:List Int}{f:List (ML×J×J)}{m:ML}(h:PF t u X A C p v B f)(D:Ad u u s)(h1:s.ownsRow u 2 1 j m.back (m.back.flatMap Ah))(h2:s.ownsRow u 2 1 l m.ej (m.ej.flatMap Ah))(y:∀q,j.ownBlock=K q->l.ownBlock≠K q)(F:n.ownsRow t 95 3 (sG g (f.length+1) cap) (f.length+1) (f.flatMap BS++[iZ m.head,j,l]))(r:s.grownBy n B.ownBlock):Ar n X #[iZ 0,iZ 0,A,C,p,B] 45/\PF t (n.setCell ⟨X,5,M⟩ (sG g (f.length+1) cap)) X A C p v (sG g (f.length+1) cap) (f++[(m,j,l)]):=by
 have b:=h.bM D;have z:=b.gR.grown r b.iE dC;have I:CU s t ((p,v)::Eu (f++[(m,j,l)])):=by have:=h.gW.ko D h1 h2 y h.size;simpa[Eu]using this
 have H:CU n t ((p,v)::Eu (f++[(m,j,l)])):=I.i6 r b.iE dC;refine⟨z,?_,H.other z dC 5 _,?_, λk E y=> ?_,?_,?_,h.lt⟩
 . have:=z.set 5 (sG g (f.length+1) cap);simpa using this
 . rw[kJ,kQ,lJ];exact kO F (a:=⟨X,5,M⟩) (FK z F dC) _
 . rw[lZ n _ k _ y,r.block k (lm E b.size) (λe=>by have:=(b.iE.lt k e.symm).1;omega)];exact b.fx k E y
 . rw[mB];exact kT b.size r.size
 exact(b.gG.grown r (by have:=h.lt;have:=b.size;omega) (λi G=>by have:=(b.iE.lt i G).1;have:=h.lt;omega)).setCell lR _
theorem EE(E:Nat->List Nat)(D L:Nat->Nat->Bool)(n b:Nat):Cg E D L n (b+1)=Cg E D L n b++(if AJ E D n b=[]then[]else[⟨(b:Int),ints (AJ E D n b),ints ((List.range n).filter (L b))⟩]):=by
 unfold Cg;rw[m9,List.filterMap_append];by_cases h:AJ E D n b=[]
 . simp[h]
 simp[h]
end Go.Proofs.YtjnglocdoljgkaaGreat
