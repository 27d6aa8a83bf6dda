import Derived.Test.YtmalfecapdmdbaaGreatHo8
namespace Go.Proofs.YtmalfecapdmdbaaGreat
open Go.ChangeShapes Go.WideShapes Go.ChangeAt Go.RowKit Go.Proofs.Tryz
set_option linter.unusedVariables false
open Go.Value renaming slice → Z,agg → Am
open Option renaming some → K,none → M
open Go renaming Value → J,World → Y,Calls → Ai
open Go.RowKit renaming Hid → Ae,Below → Ah
open Go.IntKind renaming i64 → Af
open Go.Obj renaming cells → Ak
open Go.Ending renaming returned → Al
open Go.Proofs.Tryz renaming prog → Ap
open Go.World renaming setCell → Aa,alloc → Ac
set_option maxHeartbeats 8000000
set_option maxRecDepth 100000
theorem Qt{q:Prop}(h:q:=by
 go_wp2_with fail;have R0:=HN.1.gU.set 0 h;have R1:=R0.set 1 (Z aB B cB);have R2:=R1.set 2 (Z aK ((List.range b).filter (Lf h)).length cK);have q0:=R2.cell 0;have q1:=R2.cell 1;have q2:=R2.cell 2;simp at q0 q1 q2;refine kQ (v:=Am #[h,Z aB B cB,Z aK ((List.range b).filter (Lf h)).length cK]) (by simp[results,results62,go_sem,q0,q1,q2]) rfl ⟨_,_,rfl,?_,?_,?_,?_,_,_,_,rfl⟩
 . rw[<-HB.1];(have n0:∀i:Nat,(Z aB B cB).ownBlock≠K (⟨w,i,M⟩:Addr).block:= λi q=>(HNE.o _ q).2 rfl);exact kN (kN (kN HN.2.1 (n0 0) _) (n0 1) _) (n0 2) _
 . intro hq;rw[<-HB.1]at hq;obtain rfl:=HN.2.2 hq;refine Ba (base:=w2) ?_ (by have:=HN.1.blt;omega);(have n0:∀i:Nat,(Z aK ((List.range b).filter (Lf h)).length cK).ownBlock≠K (⟨w,i,M⟩:Addr).block:= λi q=>by have h1:=(HN.1.row.lt _ q).1;have h2:=HN.1.blt;simp only[]at h1;omega);exact kN (kN (kN HN.1.row (n0 0) _) (n0 1) _) (n0 2) _
 . exact((HN.1.e8.setCell lR _).setCell lR _).setCell lR _
 intro gg h1 h2;have h3:=(HBR.lt gg h1).2;have h4:=(HN.1.row.lt gg h2).1;omega):q:=h
theorem Qu{q:Prop}(h:q:=by unfold AC at h2;rw[e,h2]at h1;simp only[kI,mg]at h1;exact absurd h1.2.1 (by decide)):q:=h
theorem Qv{q:Prop}(h:q:=by
 go_wp2;go_roundw;case rel=>exact⟨k+1,BV,by omega,by go_num,HN⟩
 simp[intOf];omega):q:=h
theorem Rn (g o c n gm cm h:Nat)(E:Nat->List Nat)(D Lf:Nat->Nat->Bool)(w:Y)(hn:n<=1024)(hh:h<n)(hE:∀b,b<n->∀x∈E b,x<n)(bR:∀b,(E b).length<=2)(hL:∀x,Lf h x=true↔AR E D n h x)(hg:Km w g o n E)(hm:GS w gm n (λb d=>D d b)):
 Ai Ap 62 #[sO g o n c,sG gm n cm,h] w λe w'=>∃BV R,e=Al (Am #[h,BV,R])/\Gh w' w BV (AH E D n h)/\(AH E D n h≠[]->Gh w' w R ((List.range n).filter (Lf h)))/\Ah w w w'/\(∀q,BV.ownBlock=K q->R.ownBlock≠K q)/\∃ak nk ck,R=Z ak nk ck:=by
 obtain⟨j0,hj,bV,bY,bZ⟩:=lS Em;obtain⟨k0,hk,aJ,aM,aP⟩:=lS Bp;have H:=Av (d5 hg (d5 hE (d5 bR (d5 hm hL))));have cj:(h:Int)<(n:Int):=oM;go_enter func62,ntmps62;go_upto_region 2 with fail
 refine Ax (λu=>Ae (AC u w #[iZ 0,sN,sN] 85/\AC u ((w:Nat)+1) #[h,sN,sN] 85/\Ah w w u)) ?_ ?_
 . have b1:=Aq w (Ak #[iZ 0,sN,sN] 85);have k1:=AC.new w #[iZ 0,sN,sN] 85;have z1:(Ac w (Ak #[iZ 0,sN,sN] 85)).heap.size= ↑w+1:=sP
   generalize Ac w (Ak #[iZ 0,sN,sN] 85)=W1 at b1 k1 z1⊢;have k2:=AC.new W1 #[h,sN,sN] 85;rw[z1]at k2;exact⟨k1.a7 (Aq _ _),k2,Ar b1 lR (Aq _ _)⟩
 intro U0 am;go_wp2_with (at_make;refine l8 _ rfl _ _ 67 rfl w 4 j0 false 1 underlying67 hj bV bY Af Af _ _ n rfl rfl rfl rfl (by rw[bZ];omega) oX am.2.2.size ?_;intro w3 A G;rw[DX,Hv]at A;have z0:=oH A h;have d0:w3 ⟨U0,h,M⟩=K ↑false:=Gm.cell A hh)
 have HS:Ae (L1 w (Aa w3 ⟨U0,h,M⟩ true) n h ((w:Nat)+1) U0 sN []):=by
  have aW:Ah U0 U0 w3:=(kS _ _).grown G lR (λk hk=>by cases hk);have l0:=am.1.lt;have l1:=am.2.1.lt;refine⟨(am.1.a7 aW).other oS _,(am.2.1.a7 aW).other oS _,Gm.set (P:= λ_=>false) A h true λj hj=> ?_,lQ _ _ _ _,(Ar am.2.2 lR aW).setCell oS _,oM⟩;by_cases e:j=h
  . subst e;simp
  simp[e]
 have ce:Ae ((U0:Nat)= ↑U0):=rfl
 generalize U0.heap.size=p at HS⊢;go_loopw [9] (λi wr=>∃(b:Nat) (BV:J),b<=n/\i=iZ b/\Ae (L1 w wr n h ((w:Nat)+1) p BV (AH E D b h))) (λi _=>n-(intOf i).toNat)
 case atStart=>exact⟨0,_,oM,rfl,HS⟩
 obtain⟨b,BV,hb,rfl,l⟩:=hrel;by_cases ao:b<n
 . have aE:(b:Int)<(n:Int):=oM;obtain⟨a,ca,g0,g1⟩:=H.1 b ao;have HG:=Av (d5 g0 g1);obtain⟨rb,r0,r1⟩:=H.2.2.2.1 b ao;have bg:=Av (d5 r0 (r1 h hh));have bF:=H.2.2.1 b;have bB:=Av (FY H.2.2.1 D h b);go_wp2;go_loopw [10] (λi wr=>∃(k:Nat) (BV:J),k<=(E b).length/\i=iZ k/\Ae (L1 w wr n h ((w:Nat)+1) p BV (AH E D b h++Ct E D h b k))) (λi _=>2-(intOf i).toNat)
   (case atStart=>exact⟨0,BV,oM,rfl,by rw[KU,m6];exact l⟩);obtain⟨k,BV,cu,rfl,l⟩:=hrel;have g0:=Au l.e8 HG.1;by_cases bK:k<(E b).length
   . have cA:(k:Int)<((E b).length:Int):=oM;obtain⟨y,S⟩:∃y,(E b)[k]?=K y:=⟨_,an bK⟩;have HY:=Av S;obtain⟨ga,oa,rfl,_,y0⟩:=HG.2.at_ S;(replace y0:=Au l.e8 y0);have m0:=Au l.e8 bg.1;have m1:=Au l.e8 bg.2;by_cases e:y=h
     . subst e;cases hD:D y b
       . rw[hD]at m1;(have HN:Ae (L1 w wr n y ((w:Nat)+1) p BV (AH E D b y++Ct E D y b (k+1))):=by show L1 w wr n y _ _ _ _;rw[I6 HY (λq=>by rw[hD]at q;cases q.2)];exact l);exact Qv
       rw[hD]at m1;obtain⟨aB,cB,rfl⟩:=AO l.back;(have br:(AH E D b y++Ct E D y b k).length<=4096:=by have h1:=bB.o;have h2:=JB E D y b k;rw[kE];omega);generalize aT:(AH E D b y++Ct E D y b k)=X at l br;have bu:=Av aT;(go_upto_region 11 with fail);refine Ax (λu=>Ae (L1 w u n y ((w:Nat)+1) p (Z aB X cB) X)) l ?_;intro U s;have t1:=s.gK.cell 1;simp only[kB,i9,kC]at t1;go_wp2_with (at_builtin;refine wpList_append_lies _ rfl _ _ 46 rfl w 2 k0 (iZ 0) 1 8 underlying46 hk aJ aM aP rfl dC _ X (nv X) rfl (s.al (Ak #[(b:Int)] 2)).1 U 1 1 [(b:Int)] rfl rfl (Bw U (b:Int)) (λu Q=>by simp at Q;subst Q;rfl) oM (by simp[maxLen];omega) oM (s.al (Ak #[(b:Int)] 2)).2 _ rfl ?_;intro F C T A G ah aq;obtain⟨aj,l5⟩:=s.gX A G;have ae:Ae (L1 w (Aa T ⟨(w:Nat)+1,1,M⟩ (sG F (X.length+1) C)) n y ((w:Nat)+1) p (sG F (X.length+1) C) (X++[b])):=l5;have t5:=aj.cell 1;have z5:=aj.frozen 1;simp only[kB,i9,kC]at t5;clear A G ah aq aj l5);(have HN:Ae (L1 w (Aa T ⟨(w:Nat)+1,1,M⟩ (sG F (X.length+1) C)) n y ((w:Nat)+1) p (sG F (X.length+1) C) (AH E D b y++Ct E D y b (k+1))):=by show L1 w _ n y _ _ _ _;rw[MU HY hD,<-mm,bu];exact ae);go_roundw;(case rel=>exact⟨k+1,_,oM,by go_num,HN⟩);exact oI
     have eI:((y:Int)==(h:Int))=false:=oT;(have HN:Ae (L1 w wr n h ((w:Nat)+1) p BV (AH E D b h++Ct E D h b (k+1))):=by show L1 w wr n h _ _ _ _;rw[I6 HY (λq=>e q.1)];exact l);exact Qv
   obtain rfl:k=(E b).length:=oM;rw[<-IB]at l;go_wp2;go_roundw;(case rel=>exact⟨b+1,BV,oM,by go_num,l⟩);exact oI
 have aS:b=n:=oM;have aE:¬(b:Int)<(n:Int):=oM;go_upto_region 12 with fail
 rw[aS]at l;obtain⟨t,bS⟩:∃W,W=wr:=⟨_,rfl⟩;subst bS;obtain⟨aB,cB,rfl⟩:=AO l.back;obtain⟨B,hB⟩:∃B,B=AH E D n h:=⟨_,rfl⟩;rw[<-hB]at l;have br:B.length<=2048:=by have:=FY H.2.2.1 D h n;rw[hB];omega
 have aX:∀x∈B,x<n:= λx I=>by rw[hB]at I;exact((Dt E D n h x).1 I).1
 have HB:=Av (d5 hB aX);clear hB aX;have aY:p≠ ↑w+1:= λe=>by obtain⟨_,bj,h1⟩:=AD l.gW;have h2:=l.gK;exact Qu
 have bH:p≠w.heap.size:= λe=>by obtain⟨_,bj,h1⟩:=AD l.gW;have h2:=l.gU;exact Qu
 have bx:Ae (0<B.length->∃gB,aB=K ⟨gB,0,M⟩/\gB≠p/\∀k x:Nat,B[k]?=K x->t ⟨gB,k,M⟩=K ↑(x:Int)):= λhp=>by
  obtain⟨gB,oB,e1,_,e2⟩:=l.back.rd.all hp;rcases BU l.back with⟨e3,e4⟩|⟨gg,cc,e3⟩
  . omega
  simp only[i8,lB]at e3;obtain⟨e3,_⟩:=e3;rw[e3]at e1;simp only[kI,mE,mV]at e1;obtain⟨rfl,rfl⟩:=e1;subst e3;refine⟨gg,rfl, λe=> ?_, λk x I=>by have:=e2 k x I;rw[lM]at this;exact this⟩;exact Oo l.back l.gW dC e
 have bf:Ae (L2 w t (Ac t (Ak #[] 2)) n p (λx=>(h::[]).contains x) (sG t 0 0) []):=by have bA:=Aq t (Ak #[] 2);refine⟨l.gW.a7 bA,⟨rfl,.inr ⟨t,0,#[],rfl,Nat.le_refl _,AC.new t #[] 2,Nat.le_refl _,mz _,rfl,rfl⟩⟩, λk hk _=>bA.block k hk,Ar l.e8 lR bA,bA.size,l.gW.lt⟩
 have HW:=Av l.e8.size;go_wp2;go_loopw [11,12] (λV i wr=>∃(L:List Nat) (k r cl:Nat),V=sG r L cl/\i=iZ k/\k<= ↑B/\Ae (L2 w t wr n p (λx=>(h::L).contains x) V L/\QI E D n h L/\SD h L (B.take k))) (λ_ i _=> ↑B-(intOf i).toNat)
 case atStart=>exact⟨[],0,_,_,rfl,rfl,oM,bf,QI.nil, λx I=>by simp at I⟩
 clear bf;obtain⟨L,k,r,cl,rfl,rfl,cw,f⟩:=hrel;have t1:wr ⟨(w:Nat)+1,1,M⟩=K (Z aB B cB):=f.1.cell (l.gK.cell 1) (Ne.symm aY);by_cases ao:k< ↑B
 . have aE:(k:Int)<(B:Int):=oM;obtain⟨x,I⟩:∃x,B[k]?=K x:=⟨_,an ao⟩;have HX:=Av I;have bt:x<n:=HB.2 x (i7 I);have cI:(x:Int)<(n:Int):=oM;obtain⟨gB,rfl,bq,bp⟩:=bx.o oM;have bi:=Av (bp k x I);have x0:=f.1.cell bi bq;have s0:=f.1.gW.cell bt;clear I bp;cases hc:(h::L).contains x
   . simp only[hc]at s0;have z0:=f.1.gW.frozen x;have aF:¬(x=h\/x∈L):=by simpa using hc
     have aH:=Av (f.1.mark x true (Pf h L x n));have au:=Av (f.2.1.add (λe=>aF (.inl e)) bt ⟨x,by rw[<-HB.1];exact i7 HX,.here (λe=>aF (.inl e))⟩ (λe=>aF (.inr e)));have N:=au.len;rw[kE,kK]at N;have HN:Ae (SD h (L++[x]) (B.take (k+1))):=f.2.2.next (λy S=>kO.2 (.inl S)) HX (.inr sP);(go_upto_region 18 with fail);refine Ax (λu=>Ae (L2 w t u n p (λj=>(h::(L++[x])).contains j) (sG r L cl) L)) aH ?_;intro U s;clear aH s0 z0 x0 t1;have t1:U ⟨(w:Nat)+1,1,M⟩=K (sG gB B cB):=s.cell (l.gK.cell 1) (Ne.symm aY);have x0:=s.cell bi bq;go_wp2_with (at_builtin;refine wpList_append_lies _ rfl _ _ 46 rfl t 2 k0 (iZ 0) 1 8 underlying46 hk aJ aM aP rfl dC _ L (nv L) rfl (s.al (Ak #[(x:Int)] 2)).1 U 1 1 [(x:Int)] rfl rfl (Bw U (x:Int)) (λu Q=>by simp at Q;subst Q;rfl) oM (by simp[maxLen];omega) oM (s.al (Ak #[(x:Int)] 2)).2 _ rfl ?_;intro F C T A G ah aq;have ae:Ae (L2 w t T n p (λj=>(h::(L++[x])).contains j) (sG F (L.length+1) C) (L++[x])):=s.gX HW A G;clear A G ah aq);go_roundw;(case rel=>exact⟨L++[x],k+1,F,C,by rw[kE,kK],by go_num,oM,ae,au,HN⟩);exact oI
   simp only[hc]at s0;have aF:x=h\/x∈L:=by simpa using hc
   have HN:=Av (f.2.2.next (λy S=>S) HX aF);go_wp2;go_roundw;(case rel=>exact⟨L,k+1,r,cl,rfl,by go_num,oM,f.1,f.2.1,HN⟩);exact oI
 have b7:Ae (SD h L (AH E D n h)):=by have:=f.2.2;rw[k8 oM,HB.1]at this;exact this
 have aG:=Av (d5 f.1 (d5 f.2.1 b7.o));clear f b7;have N:=aG.2.1.len;go_wp2;go_loopw [11,13] (λV i wr=>∃(L:List Nat) (k r cl:Nat),V=sG r L cl/\i=iZ k/\k<= ↑L/\ ↑L<=n/\Ae (L2 w t wr n p (λx=>(h::L).contains x) V L/\QI E D n h L/\SD h L (AH E D n h)/\Vd E n h L k)) (λ_ i _=>n-(intOf i).toNat)
 case atStart=>exact⟨L,0,r,cl,rfl,rfl,oM,N,aG.1,aG.2.1,aG.2.2, λj x hj hl=>oM⟩
 obtain⟨L,i,r,cl,rfl,rfl,hiL,N,f⟩:=hrel;by_cases aq:i< ↑L
 . have cE :(i:Int)<(L:Int):=oM;obtain⟨x,I⟩:∃x,L[i]?=K x:=⟨_,an aq⟩;have HX:=Av I;go_wp2;go_loopw [11,14] (λV j wr=>∃(L:List Nat) (b r cl:Nat),V=sG r L cl/\j=iZ b/\b<=n/\i< ↑L/\ ↑L<=n/\Ae (L2 w t wr n p (λx=>(h::L).contains x) V L/\QI E D n h L/\SD h L (AH E D n h)/\Vd E n h L i/\L[i]?=K x/\NO E h L x b)) (λ_ j _=>n-(intOf j).toNat)
   (case atStart=>exact⟨L,0,r,cl,rfl,rfl,oM,aq,N,f.1,f.2.1,f.2.2.1,f.2.2.2,HX, λy S=>oM⟩);obtain⟨L,b,r,cl,rfl,rfl,hb,hiL,N,f⟩:=hrel;have bI:(i:Int)<(L:Int):=oM;by_cases aA:b<n
   . have bL:(b:Int)<(n:Int):=oM;obtain⟨a,ca,g0,g1⟩:=H.1 b aA;have HG:=Av (d5 g0 g1);have bF:=H.2.2.1 b;go_wp2;go_loopw [11,15] (λV j wr=>∃(L:List Nat) (m r cl:Nat),V=sG r L cl/\j=iZ m/\m<=(E b).length/\i< ↑L/\ ↑L<=n/\Ae (L2 w t wr n p (λx=>(h::L).contains x) V L/\QI E D n h L/\SD h L (AH E D n h)/\Vd E n h L i/\L[i]?=K x/\NO E h L x b/\(x∈(E b).take m->b=h\/b∈L))) (λ_ j _=>2-(intOf j).toNat)
     (case atStart=>exact⟨L,0,r,cl,rfl,rfl,oM,hiL,N,f.1,f.2.1,f.2.2.1,f.2.2.2.1,f.2.2.2.2.1,f.2.2.2.2.2, λq=>by simp at q⟩);obtain⟨L,m,r,cl,rfl,rfl,cH,hiL,N,f⟩:=hrel;have bI:(i:Int)<(L:Int):=oM;have g0:=Au f.1.e8 HG.1;by_cases bP:m<(E b).length
     . have cG:(m:Int)<((E b).length:Int):=oM;obtain⟨y,S⟩:∃y,(E b)[m]?=K y:=⟨_,an bP⟩;have HY:Ae ((E b).take (m+1)=(E b).take m++[y]/\y∈E b):=by obtain⟨hl,rfl⟩:=i6.1 S;exact⟨kU hl,mN hl⟩
       obtain⟨ga,oa,rfl,_,y0⟩:=HG.2.at_ S;(replace y0:=Au f.1.e8 y0);obtain⟨_,_,ee,_,l0⟩:=f.1.list.rd.at_ f.2.2.2.2.1;simp only[kI,mE,mV]at ee;obtain⟨rfl,rfl⟩:=ee;rw[lM]at l0;have s0:=f.1.gW.cell aA;have aU:Ae (∀L':List Nat,(x=y->b=h\/b∈L')->(∀z∈L,z∈L')->x∈(E b).take (m+1)->b=h\/b∈L'):= λL' h1 h2 h3=>by
        rw[HY.1]at h3;rcases kO.1 h3 with h3|h3
        . exact(f.2.2.2.2.2.2 h3).imp id (h2 b)
        simp only[kY,lG,mS]at h3;exact h1 h3
       by_cases e:y=x
       . subst e;cases hc:(h::L).contains b
         . simp only[hc]at s0;have aw:¬(b=h\/b∈L):=by simpa using hc
           go_wp2;go_quiet (fail);refine AX (λu=>Ae (L2 w t u n p (λx=>(h::L).contains x) (sG r L cl) L)) (f.1.a7 (Az _ _ _)) ?_;intro U1 aR;have s1:=aR.gW.cell aA;have z1:=aR.gW.frozen b;have au:=Av (f.2.1.add (λe=>aw (.inl e)) aA (f.2.1.step (i7 f.2.2.2.2.1) aA HY.2 (λe=>aw (.inl e))) (λe=>aw (.inr e)));have bo:=au.len;rw[kE,kK]at bo;have aH:=Av (aR.mark b true (Pf h L b n));(go_upto_region 30 with fail);refine Ax (λu=>Ae (L2 w t u n p (λj=>(h::(L++[b])).contains j) (sG r L cl) L)) aH ?_;intro U s;go_wp2_with (at_builtin;refine wpList_append_lies _ rfl _ _ 46 rfl t 2 k0 (iZ 0) 1 8 underlying46 hk aJ aM aP rfl dC _ L (nv L) rfl (s.al (Ak #[(b:Int)] 2)).1 U 1 1 [(b:Int)] rfl rfl (Bw U (b:Int)) (λu Q=>by simp at Q;subst Q;rfl) oM (by simp[maxLen];omega) oM (s.al (Ak #[(b:Int)] 2)).2 _ rfl ?_;intro F C T A G ah aZ;have ae:Ae (L2 w t T n p (λj=>(h::(L++[b])).contains j) (sG F (L.length+1) C) (L++[b])):=s.gX HW A G;clear A G ah aZ);go_roundw;(case rel=>exact⟨L++[b],m+1,F,C,by rw[kE,kK],by go_num,oM,by rw[kE];omega,by rw[kE,kK];exact bo,ae,au,f.2.2.1.gX b,f.2.2.2.1.gX oM b,by rw[lO hiL];exact f.2.2.2.2.1,f.2.2.2.2.2.1.gX b,aU.o (L++[b]) (λ_=>.inr sP) (λz hz=>kO.2 (.inl hz))⟩);exact oI
         simp only[hc]at s0;have aw:b=h\/b∈L:=by simpa using hc
         go_wp2;go_quiet (fail);refine AX (λu=>Ae (L2 w t u n p (λx=>(h::L).contains x) (sG r L cl) L)) (f.1.a7 (Az _ _ _)) ?_;intro U s;go_wp2;go_roundw;(case rel=>exact⟨L,m+1,r,cl,rfl,by go_num,oM,hiL,N,s,f.2.1,f.2.2.1,f.2.2.2.1,f.2.2.2.2.1,f.2.2.2.2.2.1,aU.o L (λ_=>aw) (λz hz=>hz)⟩);exact oI
       have eI:((y:Int)==(x:Int))=false:=oT;go_wp2;go_quiet (fail);refine AX (λu=>Ae (L2 w t u n p (λx=>(h::L).contains x) (sG r L cl) L)) (f.1.a7 (Az _ _ _)) ?_;intro U s;go_wp2;go_roundw;(case rel=>exact⟨L,m+1,r,cl,rfl,by go_num,oM,hiL,N,s,f.2.1,f.2.2.1,f.2.2.2.1,f.2.2.2.2.1,f.2.2.2.2.2.1,aU.o L (λq=>absurd q.symm e) (λz hz=>hz)⟩);exact oI
     obtain rfl:m=(E b).length:=oM;have HN:=Av (f.2.2.2.2.2.1.next (by have:=f.2.2.2.2.2.2;rw[k8 lR]at this;exact this));go_wp2;go_roundw;(case rel=>exact⟨L,b+1,r,cl,rfl,by go_num,oM,hiL,N,f.1,f.2.1,f.2.2.1,f.2.2.2.1,f.2.2.2.2.1,HN⟩);exact oI
   have aS:b=n:=oM;have bL:¬(b:Int)<(n:Int):=oM;have HN:=Av (f.2.2.2.1.next f.2.2.2.2.1 (by have:=f.2.2.2.2.2;rw[aS]at this;exact this));go_wp2;go_roundw;(case rel=>exact⟨L,i+1,r,cl,rfl,by go_num,oM,N,f.1,f.2.1,f.2.2.1,HN⟩);exact oI
 obtain rfl:i=L.length:=oM;have bC:Ae (∀x,(h::L).contains x=Lf h x):= λx=>by rw[nO,f.2.1.iff f.2.2.1 f.2.2.2 x,H.2.2.2.2 x]
 go_upto_region 31 with fail
 obtain⟨w2,bT⟩:∃W,W=wr:=⟨_,rfl⟩;subst bT;have aQ:Ae (L4 w w2 w2 n h ((w:Nat)+1) p (Z aB B cB) sN [] (Lf h)):=by have bk:=f.1.gK l.gK (Ne.symm aY);refine⟨f.1.gK l.gU (Ne.symm bH),bk,f.1.gW.congr λj _=>bC.o j,lQ _ _ _ _, λk hk _=>rfl,f.1.e8,Nat.le_refl _,bk.lt⟩
 have HBR:Ae (Gh w2 w (Z aB B cB) B):=by obtain⟨_,bj,h1⟩:=AD l.gW;exact l.back.fx f.1.fx (BF l.back h1 dC)
 have HNE:Ae (∀gg,(Z aB B cB).ownBlock=K gg->gg≠ ↑w+1/\gg≠ ↑w):= λgg aI=>⟨HBR.iX aQ.gK dC gg aI,HBR.iX aQ.gU dC gg aI⟩
 go_wp2;go_loopw [16] (λi wr=>∃(b:Nat) (R:J),b<=n/\i=iZ b/\(B.length=0->b=0)/\Ae (L4 w w2 wr n h ((w:Nat)+1) p (Z aB B cB) R ((List.range b).filter (Lf h)) (Lf h))) (λi _=>n-(intOf i).toNat)
 case atStart=>exact⟨0,_,oM,rfl, λ_=>rfl,aQ⟩
 obtain⟨b,R,hb,rfl,cg,f⟩:=hrel;have t1:wr ⟨(w:Nat)+1,1,M⟩=K (Z aB B cB):=f.gK.cell 1;by_cases bG:b<n/\0<B.length
 . obtain⟨ao,hp⟩:=bG;have aE:(b:Int)<(n:Int):=oM;have bQ:(0:Int)<(B:Int):=oM;have s0:=f.gW.cell ao;cases hc:Lf h b
   . rw[hc]at s0;(have HN:Ae (L4 w w2 wr n h ((w:Nat)+1) p (Z aB B cB) R ((List.range (b+1)).filter (Lf h)) (Lf h)):=by show L4 _ _ _ _ _ _ _ _ _ _ _;rw[mw,mh];simp only[nU,hc,ni,nW,if_false,m6];exact f);go_wp2;go_roundw;(case rel=>exact⟨b+1,R,oM,by go_num, λq=>oM,HN⟩);exact oI
   rw[hc]at s0;obtain⟨aK,cK,rfl⟩:=AO f.row;(have bJ:((List.range b).filter (Lf h)).length<=1024:=by have:=mW (Lf h) (List.range b);simp only[mM]at this;omega);generalize aT:(List.range b).filter (Lf h)=O at f bJ;have HK:=Av aT;(go_upto_region 35 with fail);refine Ax (λu=>Ae (L4 w w2 u n h ((w:Nat)+1) p (Z aB B cB) (Z aK O cK) O (Lf h))) f ?_;intro U s;have t2:U ⟨(w:Nat)+1,2,M⟩=K (Z aK O cK):=s.gK.cell 2;go_wp2_with (at_builtin;refine wpList_append_lies _ rfl _ _ 46 rfl w2 2 k0 (iZ 0) 1 8 underlying46 hk aJ aM aP rfl dC _ O (nv O) rfl (s.al (Ak #[(b:Int)] 2)).1 U 1 1 [(b:Int)] rfl rfl (Bw U (b:Int)) (λu Q=>by simp at Q;subst Q;rfl) oM (by simp[maxLen];omega) oM (s.al (Ak #[(b:Int)] 2)).2 _ rfl ?_;intro F C T A G ah aZ;obtain⟨aj,l5⟩:=s.gX (ny _) A G;have ae:Ae (L4 w w2 (Aa T ⟨(w:Nat)+1,2,M⟩ (sG F (O.length+1) C)) n h ((w:Nat)+1) p (Z aB B cB) (sG F (O.length+1) C) (O++[b]) (Lf h)):=l5;have t5:T ⟨(w:Nat)+1,2,M⟩=K (Z aK O cK):=aj.cell 2;have z5:=aj.frozen 2;clear A G ah aZ aj l5);(have HN:Ae (L4 w w2 (Aa T ⟨(w:Nat)+1,2,M⟩ (sG F (O.length+1) C)) n h ((w:Nat)+1) p (Z aB B cB) (sG F (O.length+1) C) ((List.range (b+1)).filter (Lf h)) (Lf h)):=by show L4 _ _ _ _ _ _ _ _ _ _ _;rw[mw,mh,HK];simp only[nU,hc,ni,if_true];exact ae);go_roundw;(case rel=>exact⟨b+1,_,oM,by go_num, λq=>oM,HN⟩);exact oI
 have HN:Ae (L4 w w2 wr n h ((w:Nat)+1) p (Z aB B cB) R ((List.range b).filter (Lf h)) (Lf h)/\Gh wr w (Z aB B cB) B/\(B≠[]->b=n)):=by refine⟨f,HBR.fx f.fx λgg aI=>(HNE.o gg aI).1, λq=> ?_⟩;have:=nM.2 q;omega
 obtain⟨aK,cK,rfl⟩:=AO f.row;have t0:wr ⟨(w:Nat)+1,0,M⟩=K ↑h:=f.gK.cell 0
 have t2:wr ⟨(w:Nat)+1,2,M⟩=K (Z aK ((List.range b).filter (Lf h)).length cK):=f.gK.cell 2;have r0:wr w=K (iZ 0):=f.gU.cell 0;have r1:wr ⟨w,1,M⟩=K sN:=f.gU.cell 1;have r2:wr ⟨w,2,M⟩=K sN:=f.gU.cell 2;have f0:=f.gU.frozen 0;have f1:=f.gU.frozen 1;have f2:=f.gU.frozen 2;by_cases aX:b<n
 . have aE:(b:Int)<(n:Int):=oM;have bQ:¬(0:Int)<(B:Int):=oM;exact Qt
 have aE:¬(b:Int)<(n:Int):=oM;exact Qt
end Go.Proofs.YtmalfecapdmdbaaGreat
