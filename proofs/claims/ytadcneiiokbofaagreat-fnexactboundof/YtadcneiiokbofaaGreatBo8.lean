import Derived.Test.YtadcneiiokbofaaGreatBo7
namespace Go.Proofs.YtadcneiiokbofaaGreat
open Go.ChangeShapes Go.WideShapes Go.ChangeAt Go.RowKit Go.Proofs.Tryz
set_option linter.unusedVariables false
open Go.Value renaming slice → Z,agg → Am
open Option renaming some → K,none → M
open Go renaming Value → J,World → Y,Calls → Ai
open Go.RowKit renaming Hid → Ae,Below → Ah
open Go.IntKind renaming i64 → Af
open Go.Obj renaming cells → Ak
open Go.Ending renaming returned → Al
open Go.Proofs.Tryz renaming prog → Ap
open Go.World renaming setCell → Aa,alloc → Ac
set_option maxHeartbeats 8000000
set_option maxRecDepth 100000
theorem Re{q:Prop}(h:q:=by
 go_wp2_with fail;have R0:=HN.1.ik.set 0 h;have R1:=R0.set 1 (Z aB B cB);have R2:=R1.set 2 (Z aK ((List.range b).filter (Lf h)).length cK);have q0:=R2.cell 0;have q1:=R2.cell 1;have q2:=R2.cell 2;simp at q0 q1 q2;refine lO (v:=Am #[h,Z aB B cB,Z aK ((List.range b).filter (Lf h)).length cK]) (by simp[results,results71,go_sem,q0,q1,q2]) rfl ⟨_,_,rfl,?_,?_,?_,?_,_,_,_,rfl⟩
 . rw[<-HB.1];(have n0:∀i:Nat,(Z aB B cB).ownBlock≠K (⟨w,i,M⟩:Addr).block:= λi q=>(HNE.o _ q).2 rfl);exact lI (lI (lI HN.2.1 (n0 0) _) (n0 1) _) (n0 2) _
 . intro hq;rw[<-HB.1]at hq;obtain rfl:=HN.2.2 hq;refine Bb (base:=w2) ?_ (by have:=HN.1.blt;omega);(have n0:∀i:Nat,(Z aK ((List.range b).filter (Lf h)).length cK).ownBlock≠K (⟨w,i,M⟩:Addr).block:= λi q=>by have h1:=(HN.1.row.lt _ q).1;have h2:=HN.1.blt;simp only[]at h1;omega);exact lI (lI (lI HN.1.row (n0 0) _) (n0 1) _) (n0 2) _
 . exact((HN.1.ej.setCell lR _).setCell lR _).setCell lR _
 intro gg h1 h2;have h3:=(HBR.lt gg h1).2;have h4:=(HN.1.row.lt gg h2).1;omega):q:=h
theorem Rf{q:Prop}(h:q:=by unfold AA at h2;rw[e,h2]at h1;simp only[lH,nL]at h1;exact absurd h1.2.1 (by decide)):q:=h
theorem Rg{q:Prop}(h:q:=by
 go_wp2;go_roundw;case rel=>exact⟨k+1,BV,by omega,by go_num,HN⟩
 simp[intOf];omega):q:=h
theorem Sa (g o c n gm cm h:Nat)(E:Nat->List Nat)(D Lf:Nat->Nat->Bool)(w:Y)(hn:n<=1024)(hh:h<n)(hE:∀b,b<n->∀x∈E b,x<n)(bV:∀b,(E b).length<=2)(hL:∀x,Lf h x=true↔AR E D n h x)(hg:KP w g o n E)(hm:He w gm n (λb d=>D d b)):
 Ai Ap 71 #[sO g o n c,sG gm n cm,h] w λe w'=>∃BV R,e=Al (Am #[h,BV,R])/\GE w' w BV (AK E D n h)/\(AK E D n h≠[]->GE w' w R ((List.range n).filter (Lf h)))/\Ah w w w'/\(∀q,BV.ownBlock=K q->R.ownBlock≠K q)/\∃ak nk ck,R=Z ak nk ck:=by
 obtain⟨j0,hj,ce,cg,cj⟩:=mN D8;obtain⟨k0,hk,aM,aP,aQ⟩:=mN Br;have H:=Av (d5 hg (d5 hE (d5 bV (d5 hm hL))));have cA:(h:Int)<(n:Int):=oM;go_enter func71,ntmps71;go_upto_region 2 with fail
 refine Ax (λu=>Ae (AA u w #[iZ 0,sN,sN] 92/\AA u ((w:Nat)+1) #[h,sN,sN] 92/\Ah w w u)) ?_ ?_
 . have b1:=Aq w (Ak #[iZ 0,sN,sN] 92);have k1:=AA.new w #[iZ 0,sN,sN] 92;have z1:(Ac w (Ak #[iZ 0,sN,sN] 92)).heap.size= ↑w+1:=sP
   generalize Ac w (Ak #[iZ 0,sN,sN] 92)=W1 at b1 k1 z1⊢;have k2:=AA.new W1 #[h,sN,sN] 92;rw[z1]at k2;exact⟨k1.a7 (Aq _ _),k2,Ar b1 lR (Aq _ _)⟩
 intro U0 ao;go_wp2_with (at_make;refine mm _ rfl _ _ 80 rfl w 4 j0 false 1 underlying80 hj ce cg Af Af _ _ n rfl rfl rfl rfl (by rw[cj];omega) oX ao.2.2.size ?_;intro w3 A G;rw[DJ,Io]at A;have z0:=pK A h;have d0:w3 ⟨U0,h,M⟩=K ↑false:=GK.cell A hh)
 have HS:Ae (L1 w (Aa w3 ⟨U0,h,M⟩ true) n h ((w:Nat)+1) U0 sN []):=by
  have aX:Ah U0 U0 w3:=(lu _ _).grown G lR (λk hk=>by cases hk);have l0:=ao.1.lt;have l1:=ao.2.1.lt;refine⟨(ao.1.a7 aX).other oS _,(ao.2.1.a7 aX).other oS _,GK.set (P:= λ_=>false) A h true λj hj=> ?_,mI _ _ _ _,(Ar ao.2.2 lR aX).setCell oS _,oM⟩;by_cases e:j=h
  . subst e;simp
  simp[e]
 have cu:Ae ((U0:Nat)= ↑U0):=rfl
 generalize U0.heap.size=p at HS⊢;go_loopw [9] (λi wr=>∃(b:Nat) (BV:J),b<=n/\i=iZ b/\Ae (L1 w wr n h ((w:Nat)+1) p BV (AK E D b h))) (λi _=>n-(intOf i).toNat)
 case atStart=>exact⟨0,_,oM,rfl,HS⟩
 obtain⟨b,BV,hb,rfl,l⟩:=hrel;by_cases aq:b<n
 . have aF:(b:Int)<(n:Int):=oM;obtain⟨a,ca,g0,g1⟩:=H.1 b aq;have HG:=Av (d5 g0 g1);obtain⟨rb,r0,r1⟩:=H.2.2.2.1 b aq;have bj:=Av (d5 r0 (r1 h hh));have bI:=H.2.2.1 b;have bG:=Av (Gq H.2.2.1 D h b);go_wp2;go_loopw [10] (λi wr=>∃(k:Nat) (BV:J),k<=(E b).length/\i=iZ k/\Ae (L1 w wr n h ((w:Nat)+1) p BV (AK E D b h++Cv E D h b k))) (λi _=>2-(intOf i).toNat)
   (case atStart=>exact⟨0,BV,oM,rfl,by rw[Lo,ny];exact l⟩);obtain⟨k,BV,cE,rfl,l⟩:=hrel;have g0:=Au l.ej HG.1;by_cases bQ:k<(E b).length
   . have cH:(k:Int)<((E b).length:Int):=oM;obtain⟨y,S⟩:∃y,(E b)[k]?=K y:=⟨_,an bQ⟩;have HY:=Av S;obtain⟨ga,oa,rfl,_,y0⟩:=HG.2.at_ S;(replace y0:=Au l.ej y0);have m0:=Au l.ej bj.1;have m1:=Au l.ej bj.2;by_cases e:y=h
     . subst e;cases hD:D y b
       . rw[hD]at m1;(have HN:Ae (L1 w wr n y ((w:Nat)+1) p BV (AK E D b y++Cv E D y b (k+1))):=by show L1 w wr n y _ _ _ _;rw[Jq HY (λq=>by rw[hD]at q;cases q.2)];exact l);exact Rg
       rw[hD]at m1;obtain⟨aB,cB,rfl⟩:=AF l.back;(have bx:(AK E D b y++Cv E D y b k).length<=4096:=by have h1:=bG.o;have h2:=JY E D y b k;rw[lG];omega);generalize aU:(AK E D b y++Cv E D y b k)=X at l bx;have bC:=Av aU;(go_upto_region 11 with fail);refine Ax (λu=>Ae (L1 w u n y ((w:Nat)+1) p (Z aB X cB) X)) l ?_;intro U s;have t1:=s.ie.cell 1;simp only[lE,lC,lF]at t1;go_wp2_with (at_builtin;refine wpList_append_lies _ rfl _ _ 29 rfl w 2 k0 (iZ 0) 1 8 underlying29 hk aM aP aQ rfl dC _ X (nv X) rfl (s.al (Ak #[(b:Int)] 2)).1 U 1 1 [(b:Int)] rfl rfl (BM U (b:Int)) (λu Q=>by simp at Q;subst Q;rfl) oM (by simp[maxLen];omega) oM (s.al (Ak #[(b:Int)] 2)).2 _ rfl ?_;intro F C T A G ah au;obtain⟨am,l5⟩:=s.ir A G;have ae:Ae (L1 w (Aa T ⟨(w:Nat)+1,1,M⟩ (sG F (X.length+1) C)) n y ((w:Nat)+1) p (sG F (X.length+1) C) (X++[b])):=l5;have t5:=am.cell 1;have z5:=am.frozen 1;simp only[lE,lC,lF]at t5;clear A G ah au am l5);(have HN:Ae (L1 w (Aa T ⟨(w:Nat)+1,1,M⟩ (sG F (X.length+1) C)) n y ((w:Nat)+1) p (sG F (X.length+1) C) (AK E D b y++Cv E D y b (k+1))):=by show L1 w _ n y _ _ _ _;rw[Nr HY hD,<-nN,bC];exact ae);go_roundw;(case rel=>exact⟨k+1,_,oM,by go_num,HN⟩);exact oI
     have eI:((y:Int)==(h:Int))=false:=oT;(have HN:Ae (L1 w wr n h ((w:Nat)+1) p BV (AK E D b h++Cv E D h b (k+1))):=by show L1 w wr n h _ _ _ _;rw[Jq HY (λq=>e q.1)];exact l);exact Rg
   obtain rfl:k=(E b).length:=oM;rw[<-I7]at l;go_wp2;go_roundw;(case rel=>exact⟨b+1,BV,oM,by go_num,l⟩);exact oI
 have aT:b=n:=oM;have aF:¬(b:Int)<(n:Int):=oM;go_upto_region 12 with fail
 rw[aT]at l;obtain⟨t,bY⟩:∃W,W=wr:=⟨_,rfl⟩;subst bY;obtain⟨aB,cB,rfl⟩:=AF l.back;obtain⟨B,hB⟩:∃B,B=AK E D n h:=⟨_,rfl⟩;rw[<-hB]at l;have bx:B.length<=2048:=by have:=Gq H.2.2.1 D h n;rw[hB];omega
 have aY:∀x∈B,x<n:= λx I=>by rw[hB]at I;exact((DG E D n h x).1 I).1
 have HB:=Av (d5 hB aY);clear hB aY;have aZ:p≠ ↑w+1:= λe=>by obtain⟨_,bq,h1⟩:=AD l.iq;have h2:=l.ie;exact Rf
 have bK:p≠w.heap.size:= λe=>by obtain⟨_,bq,h1⟩:=AD l.iq;have h2:=l.ik;exact Rf
 have bF:Ae (0<B.length->∃gB,aB=K ⟨gB,0,M⟩/\gB≠p/\∀k x:Nat,B[k]?=K x->t ⟨gB,k,M⟩=K ↑(x:Int)):= λhp=>by
  obtain⟨gB,oB,e1,_,e2⟩:=l.back.rd.all hp;rcases Bo l.back with⟨e3,e4⟩|⟨gg,cc,e3⟩
  . omega
  simp only[lB,mB]at e3;obtain⟨e3,_⟩:=e3;rw[e3]at e1;simp only[lH,nF,nU]at e1;obtain⟨rfl,rfl⟩:=e1;subst e3;refine⟨gg,rfl, λe=> ?_, λk x I=>by have:=e2 k x I;rw[mQ]at this;exact this⟩;exact Pc l.back l.iq dC e
 have bi:Ae (L2 w t (Ac t (Ak #[] 2)) n p (λx=>(h::[]).contains x) (sG t 0 0) []):=by have bA:=Aq t (Ak #[] 2);refine⟨l.iq.a7 bA,⟨rfl,.inr ⟨t,0,#[],rfl,Nat.le_refl _,AA.new t #[] 2,Nat.le_refl _,nZ _,rfl,rfl⟩⟩, λk hk _=>bA.block k hk,Ar l.ej lR bA,bA.size,l.iq.lt⟩
 have HW:=Av l.ej.size;go_wp2;go_loopw [11,12] (λV i wr=>∃(L:List Nat) (k r cl:Nat),V=sG r L cl/\i=iZ k/\k<= ↑B/\Ae (L2 w t wr n p (λx=>(h::L).contains x) V L/\Rt E D n h L/\Tx h L (B.take k))) (λ_ i _=> ↑B-(intOf i).toNat)
 case atStart=>exact⟨[],0,_,_,rfl,rfl,oM,bi,Rt.nil, λx I=>by simp at I⟩
 clear bi;obtain⟨L,k,r,cl,rfl,rfl,cG,f⟩:=hrel;have t1:wr ⟨(w:Nat)+1,1,M⟩=K (Z aB B cB):=f.1.cell (l.ie.cell 1) (Ne.symm aZ);by_cases aq:k< ↑B
 . have aF:(k:Int)<(B:Int):=oM;obtain⟨x,I⟩:∃x,B[k]?=K x:=⟨_,an aq⟩;have HX:=Av I;have bB:x<n:=HB.2 x (lA I);have cQ:(x:Int)<(n:Int):=oM;obtain⟨gB,rfl,bu,bt⟩:=bF.o oM;have bp:=Av (bt k x I);have x0:=f.1.cell bp bu;have s0:=f.1.iq.cell bB;clear I bt;cases hc:(h::L).contains x
   . simp only[hc]at s0;have z0:=f.1.iq.frozen x;have aG:¬(x=h\/x∈L):=by simpa using hc
     have aI:=Av (f.1.mark x true (PZ h L x n));have aw:=Av (f.2.1.add (λe=>aG (.inl e)) bB ⟨x,by rw[<-HB.1];exact lA HX,.here (λe=>aG (.inl e))⟩ (λe=>aG (.inr e)));have N:=aw.len;rw[lG,lL]at N;have HN:Ae (Tx h (L++[x]) (B.take (k+1))):=f.2.2.next (λy S=>lT.2 (.inl S)) HX (.inr sP);(go_upto_region 18 with fail);refine Ax (λu=>Ae (L2 w t u n p (λj=>(h::(L++[x])).contains j) (sG r L cl) L)) aI ?_;intro U s;clear aI s0 z0 x0 t1;have t1:U ⟨(w:Nat)+1,1,M⟩=K (sG gB B cB):=s.cell (l.ie.cell 1) (Ne.symm aZ);have x0:=s.cell bp bu;go_wp2_with (at_builtin;refine wpList_append_lies _ rfl _ _ 29 rfl t 2 k0 (iZ 0) 1 8 underlying29 hk aM aP aQ rfl dC _ L (nv L) rfl (s.al (Ak #[(x:Int)] 2)).1 U 1 1 [(x:Int)] rfl rfl (BM U (x:Int)) (λu Q=>by simp at Q;subst Q;rfl) oM (by simp[maxLen];omega) oM (s.al (Ak #[(x:Int)] 2)).2 _ rfl ?_;intro F C T A G ah au;have ae:Ae (L2 w t T n p (λj=>(h::(L++[x])).contains j) (sG F (L.length+1) C) (L++[x])):=s.ir HW A G;clear A G ah au);go_roundw;(case rel=>exact⟨L++[x],k+1,F,C,by rw[lG,lL],by go_num,oM,ae,aw,HN⟩);exact oI
   simp only[hc]at s0;have aG:x=h\/x∈L:=by simpa using hc
   have HN:=Av (f.2.2.next (λy S=>S) HX aG);go_wp2;go_roundw;(case rel=>exact⟨L,k+1,r,cl,rfl,by go_num,oM,f.1,f.2.1,HN⟩);exact oI
 have bg:Ae (Tx h L (AK E D n h)):=by have:=f.2.2;rw[mC oM,HB.1]at this;exact this
 have aH:=Av (d5 f.1 (d5 f.2.1 bg.o));clear f bg;have N:=aH.2.1.len;go_wp2;go_loopw [11,13] (λV i wr=>∃(L:List Nat) (k r cl:Nat),V=sG r L cl/\i=iZ k/\k<= ↑L/\ ↑L<=n/\Ae (L2 w t wr n p (λx=>(h::L).contains x) V L/\Rt E D n h L/\Tx h L (AK E D n h)/\Wq E n h L k)) (λ_ i _=>n-(intOf i).toNat)
 case atStart=>exact⟨L,0,r,cl,rfl,rfl,oM,N,aH.1,aH.2.1,aH.2.2, λj x hj hl=>oM⟩
 obtain⟨L,i,r,cl,rfl,rfl,aj,N,f⟩:=hrel;by_cases au:i< ↑L
 . have cI :(i:Int)<(L:Int):=oM;obtain⟨x,I⟩:∃x,L[i]?=K x:=⟨_,an au⟩;have HX:=Av I;go_wp2;go_loopw [11,14] (λV j wr=>∃(L:List Nat) (b r cl:Nat),V=sG r L cl/\j=iZ b/\b<=n/\i< ↑L/\ ↑L<=n/\Ae (L2 w t wr n p (λx=>(h::L).contains x) V L/\Rt E D n h L/\Tx h L (AK E D n h)/\Wq E n h L i/\L[i]?=K x/\Oq E h L x b)) (λ_ j _=>n-(intOf j).toNat)
   (case atStart=>exact⟨L,0,r,cl,rfl,rfl,oM,au,N,f.1,f.2.1,f.2.2.1,f.2.2.2,HX, λy S=>oM⟩);obtain⟨L,b,r,cl,rfl,rfl,hb,aj,N,f⟩:=hrel;have bL:(i:Int)<(L:Int):=oM;by_cases aE:b<n
   . have bR:(b:Int)<(n:Int):=oM;obtain⟨a,ca,g0,g1⟩:=H.1 b aE;have HG:=Av (d5 g0 g1);have bI:=H.2.2.1 b;go_wp2;go_loopw [11,15] (λV j wr=>∃(L:List Nat) (m r cl:Nat),V=sG r L cl/\j=iZ m/\m<=(E b).length/\i< ↑L/\ ↑L<=n/\Ae (L2 w t wr n p (λx=>(h::L).contains x) V L/\Rt E D n h L/\Tx h L (AK E D n h)/\Wq E n h L i/\L[i]?=K x/\Oq E h L x b/\(x∈(E b).take m->b=h\/b∈L))) (λ_ j _=>2-(intOf j).toNat)
     (case atStart=>exact⟨L,0,r,cl,rfl,rfl,oM,aj,N,f.1,f.2.1,f.2.2.1,f.2.2.2.1,f.2.2.2.2.1,f.2.2.2.2.2, λq=>by simp at q⟩);obtain⟨L,m,r,cl,rfl,rfl,cM,aj,N,f⟩:=hrel;have bL:(i:Int)<(L:Int):=oM;have g0:=Au f.1.ej HG.1;by_cases bS:m<(E b).length
     . have cJ:(m:Int)<((E b).length:Int):=oM;obtain⟨y,S⟩:∃y,(E b)[m]?=K y:=⟨_,an bS⟩;have HY:Ae ((E b).take (m+1)=(E b).take m++[y]/\y∈E b):=by obtain⟨hl,rfl⟩:=i8.1 S;exact⟨l8 hl,nG hl⟩
       obtain⟨ga,oa,rfl,_,y0⟩:=HG.2.at_ S;(replace y0:=Au f.1.ej y0);obtain⟨_,_,ee,_,l0⟩:=f.1.list.rd.at_ f.2.2.2.2.1;simp only[lH,nF,nU]at ee;obtain⟨rfl,rfl⟩:=ee;rw[mQ]at l0;have s0:=f.1.iq.cell aE;have aW:Ae (∀L':List Nat,(x=y->b=h\/b∈L')->(∀z∈L,z∈L')->x∈(E b).take (m+1)->b=h\/b∈L'):= λL' h1 h2 h3=>by
        rw[HY.1]at h3;rcases lT.1 h3 with h3|h3
        . exact(f.2.2.2.2.2.2 h3).imp id (h2 b)
        simp only[lw,mK,nJ]at h3;exact h1 h3
       by_cases e:y=x
       . subst e;cases hc:(h::L).contains b
         . simp only[hc]at s0;have aA:¬(b=h\/b∈L):=by simpa using hc
           go_wp2;go_quiet (fail);refine AY (λu=>Ae (L2 w t u n p (λx=>(h::L).contains x) (sG r L cl) L)) (f.1.a7 (AB _ _ _)) ?_;intro U1 aS;have s1:=aS.iq.cell aE;have z1:=aS.iq.frozen b;have aw:=Av (f.2.1.add (λe=>aA (.inl e)) aE (f.2.1.step (lA f.2.2.2.2.1) aE HY.2 (λe=>aA (.inl e))) (λe=>aA (.inr e)));have br:=aw.len;rw[lG,lL]at br;have aI:=Av (aS.mark b true (PZ h L b n));(go_upto_region 30 with fail);refine Ax (λu=>Ae (L2 w t u n p (λj=>(h::(L++[b])).contains j) (sG r L cl) L)) aI ?_;intro U s;go_wp2_with (at_builtin;refine wpList_append_lies _ rfl _ _ 29 rfl t 2 k0 (iZ 0) 1 8 underlying29 hk aM aP aQ rfl dC _ L (nv L) rfl (s.al (Ak #[(b:Int)] 2)).1 U 1 1 [(b:Int)] rfl rfl (BM U (b:Int)) (λu Q=>by simp at Q;subst Q;rfl) oM (by simp[maxLen];omega) oM (s.al (Ak #[(b:Int)] 2)).2 _ rfl ?_;intro F C T A G ah bf;have ae:Ae (L2 w t T n p (λj=>(h::(L++[b])).contains j) (sG F (L.length+1) C) (L++[b])):=s.ir HW A G;clear A G ah bf);go_roundw;(case rel=>exact⟨L++[b],m+1,F,C,by rw[lG,lL],by go_num,oM,by rw[lG];omega,by rw[lG,lL];exact br,ae,aw,f.2.2.1.ir b,f.2.2.2.1.ir oM b,by rw[mP aj];exact f.2.2.2.2.1,f.2.2.2.2.2.1.ir b,aW.o (L++[b]) (λ_=>.inr sP) (λz hz=>lT.2 (.inl hz))⟩);exact oI
         simp only[hc]at s0;have aA:b=h\/b∈L:=by simpa using hc
         go_wp2;go_quiet (fail);refine AY (λu=>Ae (L2 w t u n p (λx=>(h::L).contains x) (sG r L cl) L)) (f.1.a7 (AB _ _ _)) ?_;intro U s;go_wp2;go_roundw;(case rel=>exact⟨L,m+1,r,cl,rfl,by go_num,oM,aj,N,s,f.2.1,f.2.2.1,f.2.2.2.1,f.2.2.2.2.1,f.2.2.2.2.2.1,aW.o L (λ_=>aA) (λz hz=>hz)⟩);exact oI
       have eI:((y:Int)==(x:Int))=false:=oT;go_wp2;go_quiet (fail);refine AY (λu=>Ae (L2 w t u n p (λx=>(h::L).contains x) (sG r L cl) L)) (f.1.a7 (AB _ _ _)) ?_;intro U s;go_wp2;go_roundw;(case rel=>exact⟨L,m+1,r,cl,rfl,by go_num,oM,aj,N,s,f.2.1,f.2.2.1,f.2.2.2.1,f.2.2.2.2.1,f.2.2.2.2.2.1,aW.o L (λq=>absurd q.symm e) (λz hz=>hz)⟩);exact oI
     obtain rfl:m=(E b).length:=oM;have HN:=Av (f.2.2.2.2.2.1.next (by have:=f.2.2.2.2.2.2;rw[mC lR]at this;exact this));go_wp2;go_roundw;(case rel=>exact⟨L,b+1,r,cl,rfl,by go_num,oM,aj,N,f.1,f.2.1,f.2.2.1,f.2.2.2.1,f.2.2.2.2.1,HN⟩);exact oI
   have aT:b=n:=oM;have bR:¬(b:Int)<(n:Int):=oM;have HN:=Av (f.2.2.2.1.next f.2.2.2.2.1 (by have:=f.2.2.2.2.2;rw[aT]at this;exact this));go_wp2;go_roundw;(case rel=>exact⟨L,i+1,r,cl,rfl,by go_num,oM,N,f.1,f.2.1,f.2.2.1,HN⟩);exact oI
 obtain rfl:i=L.length:=oM;have bH:Ae (∀x,(h::L).contains x=Lf h x):= λx=>by rw[oR,f.2.1.iff f.2.2.1 f.2.2.2 x,H.2.2.2.2 x]
 go_upto_region 31 with fail
 obtain⟨w2,bZ⟩:∃W,W=wr:=⟨_,rfl⟩;subst bZ;have aR:Ae (L4 w w2 w2 n h ((w:Nat)+1) p (Z aB B cB) sN [] (Lf h)):=by have bk:=f.1.ie l.ie (Ne.symm aZ);refine⟨f.1.ie l.ik (Ne.symm bK),bk,f.1.iq.congr λj _=>bH.o j,mI _ _ _ _, λk hk _=>rfl,f.1.ej,Nat.le_refl _,bk.lt⟩
 have HBR:Ae (GE w2 w (Z aB B cB) B):=by obtain⟨_,bq,h1⟩:=AD l.iq;exact l.back.fx f.1.fx (Bt l.back h1 dC)
 have HNE:Ae (∀gg,(Z aB B cB).ownBlock=K gg->gg≠ ↑w+1/\gg≠ ↑w):= λgg aJ=>⟨HBR.j6 aR.ie dC gg aJ,HBR.j6 aR.ik dC gg aJ⟩
 go_wp2;go_loopw [16] (λi wr=>∃(b:Nat) (R:J),b<=n/\i=iZ b/\(B.length=0->b=0)/\Ae (L4 w w2 wr n h ((w:Nat)+1) p (Z aB B cB) R ((List.range b).filter (Lf h)) (Lf h))) (λi _=>n-(intOf i).toNat)
 case atStart=>exact⟨0,_,oM,rfl, λ_=>rfl,aR⟩
 obtain⟨b,R,hb,rfl,cw,f⟩:=hrel;have t1:wr ⟨(w:Nat)+1,1,M⟩=K (Z aB B cB):=f.ie.cell 1;by_cases bJ:b<n/\0<B.length
 . obtain⟨aq,hp⟩:=bJ;have aF:(b:Int)<(n:Int):=oM;have bT:(0:Int)<(B:Int):=oM;have s0:=f.iq.cell aq;cases hc:Lf h b
   . rw[hc]at s0;(have HN:Ae (L4 w w2 wr n h ((w:Nat)+1) p (Z aB B cB) R ((List.range (b+1)).filter (Lf h)) (Lf h)):=by show L4 _ _ _ _ _ _ _ _ _ _ _;rw[nW,nY];simp only[oq,hc,pC,o5,if_false,ny];exact f);go_wp2;go_roundw;(case rel=>exact⟨b+1,R,oM,by go_num, λq=>oM,HN⟩);exact oI
   rw[hc]at s0;obtain⟨aK,cK,rfl⟩:=AF f.row;(have bP:((List.range b).filter (Lf h)).length<=1024:=by have:=nP (Lf h) (List.range b);simp only[m8]at this;omega);generalize aU:(List.range b).filter (Lf h)=O at f bP;have HK:=Av aU;(go_upto_region 35 with fail);refine Ax (λu=>Ae (L4 w w2 u n h ((w:Nat)+1) p (Z aB B cB) (Z aK O cK) O (Lf h))) f ?_;intro U s;have t2:U ⟨(w:Nat)+1,2,M⟩=K (Z aK O cK):=s.ie.cell 2;go_wp2_with (at_builtin;refine wpList_append_lies _ rfl _ _ 29 rfl w2 2 k0 (iZ 0) 1 8 underlying29 hk aM aP aQ rfl dC _ O (nv O) rfl (s.al (Ak #[(b:Int)] 2)).1 U 1 1 [(b:Int)] rfl rfl (BM U (b:Int)) (λu Q=>by simp at Q;subst Q;rfl) oM (by simp[maxLen];omega) oM (s.al (Ak #[(b:Int)] 2)).2 _ rfl ?_;intro F C T A G ah bf;obtain⟨am,l5⟩:=s.ir (pE _) A G;have ae:Ae (L4 w w2 (Aa T ⟨(w:Nat)+1,2,M⟩ (sG F (O.length+1) C)) n h ((w:Nat)+1) p (Z aB B cB) (sG F (O.length+1) C) (O++[b]) (Lf h)):=l5;have t5:T ⟨(w:Nat)+1,2,M⟩=K (Z aK O cK):=am.cell 2;have z5:=am.frozen 2;clear A G ah bf am l5);(have HN:Ae (L4 w w2 (Aa T ⟨(w:Nat)+1,2,M⟩ (sG F (O.length+1) C)) n h ((w:Nat)+1) p (Z aB B cB) (sG F (O.length+1) C) ((List.range (b+1)).filter (Lf h)) (Lf h)):=by show L4 _ _ _ _ _ _ _ _ _ _ _;rw[nW,nY,HK];simp only[oq,hc,pC,if_true];exact ae);go_roundw;(case rel=>exact⟨b+1,_,oM,by go_num, λq=>oM,HN⟩);exact oI
 have HN:Ae (L4 w w2 wr n h ((w:Nat)+1) p (Z aB B cB) R ((List.range b).filter (Lf h)) (Lf h)/\GE wr w (Z aB B cB) B/\(B≠[]->b=n)):=by refine⟨f,HBR.fx f.fx λgg aJ=>(HNE.o gg aJ).1, λq=> ?_⟩;have:=oQ.2 q;omega
 obtain⟨aK,cK,rfl⟩:=AF f.row;have t0:wr ⟨(w:Nat)+1,0,M⟩=K ↑h:=f.ie.cell 0
 have t2:wr ⟨(w:Nat)+1,2,M⟩=K (Z aK ((List.range b).filter (Lf h)).length cK):=f.ie.cell 2;have r0:wr w=K (iZ 0):=f.ik.cell 0;have r1:wr ⟨w,1,M⟩=K sN:=f.ik.cell 1;have r2:wr ⟨w,2,M⟩=K sN:=f.ik.cell 2;have f0:=f.ik.frozen 0;have f1:=f.ik.frozen 1;have f2:=f.ik.frozen 2;by_cases aY:b<n
 . have aF:(b:Int)<(n:Int):=oM;have bT:¬(0:Int)<(B:Int):=oM;exact Re
 have aF:¬(b:Int)<(n:Int):=oM;exact Re
end Go.Proofs.YtadcneiiokbofaaGreat
