import Derived.Test.YtdipfjmlfbdkdaaGreatFc43
import Derived.WalkMore
namespace Go.Proofs.YtdipfjmlfbdkdaaGreat
open Go.ChangeShapes Go.WideShapes Go.ChangeAt Go.RowKit
set_option linter.unusedVariables false
set_option maxHeartbeats 16000000
set_option maxRecDepth 100000
theorem Ex(B CB:Nat)(v:Bz)(n gC cC gS cS:Nat)(I:List Nat)(C:List Int)(E:Nat->List Nat)(R:List Nat)(pl:Nat->Nat)(h:Nat)(x:Ev)(ka:Option Addr)(kc:Nat)(ks:List Int)(w:World)(hn:n<=1024)(hS:BC w B CB v n gC cC gS cS I C)(hF:Q9 w v n E R pl)(hh:h<n)(hkn:ks.length<=1024)(hk:Rd w 1 (.slice ka ks.length kc) ks.length (ks.flatMap Ac))(hz:∀z∈ks,∃b:Nat,z=(b:Int)/\b<n):
 Calls Tryz.prog 61 #[.pointer (some ⟨CB,0,none⟩),.agg #[.int .i64 (h:Int),.slice x.a x.n x.c,.slice ka ks.length kc]] w (RF w n E ks I C h pl):=by
 obtain⟨k0,hk0,hx0,hx1,hx2⟩:=bQ BE
 have hmm:= @run_makeMap Tryz.prog
 have H:=AS (aq hS (aq hF (aq hk hz)))
 obtain⟨gb,ob,eb1,eb2,eb3⟩:=hF.gr
 obtain⟨go,oo,eo1,eo2,eo3⟩:=hF.od
 have HV:Hid (v.b.a=some ⟨gb,ob,none⟩/\v.b.n=n/\v.o.a=some ⟨go,oo,none⟩/\v.o.n=R.length):=⟨eb1,eb2,eo1,eo2⟩
 have hrl:R.length<=1024:=hF.rl
 clear hS hF hk hz eb1 eb2 eo1 eo2 eb3 eo3
 have KC11:∀u,Below w.heap.size w u->u.cell? ⟨CB,11,none⟩=some (.slice (some ⟨gb,ob,none⟩) n v.b.c)/\u.cell? ⟨CB,12,none⟩=some (.slice (some ⟨go,oo,none⟩) R.length v.o.c)/\u.cell? ⟨CB,15,none⟩=some (.slice (some ⟨gC,0,none⟩) n cC)/\u.cell? ⟨CB,16,none⟩=some (.slice (some ⟨gS,0,none⟩) n cS):=fun u hu=>by
  obtain⟨a1,a2,a3,a4⟩:=(H.o.1.keep hu).cells
  rw[HV.o.1,HV.o.2.1]at a1
  rw[HV.o.2.2.1,HV.o.2.2.2]at a2
  exact⟨a1,a2,a3,a4⟩
 have KCELL:=AS KC11
 clear KC11
 have hhI:(h:Int)<(n:Int):=by omega
 have E0:Hid (Ak (w.alloc (.cells #[.int .i64 (h:Int),.slice x.a x.n x.c,.slice ka ks.length kc] 68)) w.heap.size #[.int .i64 (h:Int),.slice x.a x.n x.c,.slice ka ks.length kc] 68/\Below w.heap.size w (w.alloc (.cells #[.int .i64 (h:Int),.slice x.a x.n x.c,.slice ka ks.length kc] 68))):=⟨Ak.new _ _ _,Aa _ _⟩
 go_enter Tryz.func61,Tryz.ntmps61
 go_upto_region 1 with fail
 refine Al (fun u=>Hid (Ak u w.heap.size #[.int .i64 (h:Int),.slice x.a x.n x.c,.slice ka ks.length kc] 68/\Below w.heap.size w u)) E0 ?_
 rintro U HE
 clear E0
 go_step3
 have bM:=Aa U (.map #[] 0)
 have m2:=(HE.o.1.keep bM).cell 2
 simp only[am,aM,aj]at m2
 have HS0:Hid (AU (U.alloc (.map #[] 0)) U.heap.size 0 (.map [])/\Below w.heap.size w (U.alloc (.map #[] 0))/\Ak (U.alloc (.map #[] 0)) w.heap.size #[.int .i64 (h:Int),.slice x.a x.n x.c,.slice ka ks.length kc] 68):=⟨World.ownsMap_made _ _ _ _,Ab HE.o.2 lR bM,HE.o.1.keep bM⟩
 have HUL:Hid (w.heap.size<U.heap.size):=HE.o.1.lt
 clear bM HE
 go_upto_region 2 with fail
 have HK2:Hid (Rd (U.alloc (.map #[] 0)) 1 (.slice ka ks.length kc) ks.length (ks.flatMap Ac)):=Rd.keep H.o.2.2.1 HS0.o.2.1 lR
 have HNE:Hid (∀g o,ka=some ⟨g,o,none⟩->0<ks.length->g≠U.heap.size):=fun g o e hp q=>by
  rcases H.o.2.2.1.2 with⟨e1,_⟩|⟨g1,o1,c1,e1,hc⟩
  . omega
  . simp only[aF,aw]at e1
    have hl:=aC (hc 0 _ (Ew (aA hp)))
    have:=HUL.o
    rw[e]at e1
    simp only[aR,cR,cw]at e1
    simp only[]at hl
    omega
 go_wp2_with fail
 refine(Mh U.heap.size ka kc ks (U.alloc (.map #[] 0)) (by omega) (fun z hz=>by obtain⟨b,rfl,hb⟩:=H.o.2.2.2 z hz;exact Dl (by omega)) HK2.o HNE.o HS0.o.1).mono ?_
 rintro e u2 ⟨rfl,hset,hgr⟩
 have E2:Hid ((∃cnt D,AU u2 U.heap.size cnt D/\∀z:Int,Go.Maps.has D (.int .i64 z)=decide (z∈ks))/\Below w.heap.size w u2/\Ak u2 w.heap.size #[.int .i64 (h:Int),.slice x.a x.n x.c,.slice ka ks.length kc] 68/\U.heap.size<u2.heap.size):=⟨hset,HS0.o.2.1.grown hgr HS0.o.2.1.size (fun j hj=>by cases hj;exact d8 HUL.o),HS0.o.2.2.apart hgr (by have:=HUL.o;omega),by have:=hgr.size;rw[eS]at this;omega⟩
 clear hset hgr HS0 HK2 HNE m2
 obtain⟨c11,c12,c15,c16⟩:=KCELL.o u2 E2.o.2.1
 go_upto_region 4 with(at_make;refine bZ _ rfl _ _ 28 rfl u2.heap.size 2 k0 (iZ 0) 1 Tryz.underlying28 hk0 hx0 hx1 .i64 .i64 _ _ n rfl rfl rfl rfl (by rw[hx2];omega) (by unfold maxLen;omega) lR ?_;intro w3 hown hgrow;rw[Pr]at hown)
 have hb3:Below u2.heap.size u2 w3:=(aX _ _).grown hgrow lR (fun k hk=>by cases hk)
 have E3:Hid (Hg w w3 U.heap.size h x ka kc ks n u2.heap.size (List.replicate n 0)):=by
  obtain⟨⟨cnt,D,s1,s2⟩,s3,s4,s5⟩:=E2.o
  have:=HUL.o
  exact⟨⟨cnt,D,s1.keep hb3,s2⟩,s4.keep hb3,⟨hown.1,hown.2.imp_right fun⟨g,cap,cur,q1,q2,q3⟩=>⟨g,cap,cur,q1,by omega,q3⟩⟩,Ab s3 lR hb3,by omega,by omega⟩
 clear hown hgrow hb3 c11 c12 c15 c16 E2
 generalize u2.heap.size=gL at E3⊢
 generalize U.heap.size=SB at E3 HUL⊢
 clear HUL
 have HRD:Hid (Hg w w3.drew SB h x ka kc ks n gL (List.replicate n 0)):=E3.o.keep (Ae _)
 clear E3
 have KS:∀w',Below w.heap.size w w'->Ak w' w.heap.size #[.int .i64 (h:Int),.slice x.a x.n x.c,.slice ka ks.length kc] 68->w'.cell? ⟨w.heap.size,0,none⟩=some (.int .i64 (h:Int))/\w'.cell? ⟨CB,15,none⟩=some (.slice (some ⟨gC,0,none⟩) n cC)/\w'.cell? ⟨gC,h,none⟩=some (.int .i64 (cf C h)):=fun w' hb hB=>⟨hB.cell 0,(KCELL.o w' hb).2.2.1,(H.o.1.keep hb).cAt hh⟩
 refine wp_region_held_drew (S:=fun w'=>w'.cell? ⟨w.heap.size,0,none⟩=some (.int .i64 (h:Int))/\w'.cell? ⟨CB,15,none⟩=some (.slice (some ⟨gC,0,none⟩) n cC)/\w'.cell? ⟨gC,h,none⟩=some (.int .i64 (cf C h))) (by kernel_rfl) (KS _ HRD.o.bel HRD.o.lb) (fun hHeld=> ?_)
 generalize w3.drew=U3 at HRD hHeld⊢
 refine AG 0 ?_ (hw:=by kernel_rfl)
 refine AG 1 ?_ (hw:=by kernel_rfl)
 refine AG 2 ?_ (hw:=by kernel_rfl)
 refine AG 3 ?_ (hw:=by kernel_rfl)
 refine AG 4 ?_ (hw:=by kernel_rfl)
 refine AG 5 ?_ (hw:=by kernel_rfl)
 refine AG 6 ?_ (hw:=by kernel_rfl)
 refine AG 7 ?_ (hw:=by kernel_rfl)
 refine AG 8 ?_ (hw:=by kernel_rfl)
 refine AG 9 ?_ (hw:=by kernel_rfl)
 refine AG 10 ?_ (hw:=by kernel_rfl)
 refine AG 11 ?_ (hw:=by kernel_rfl)
 go_simp
 refine Gq 12 ?_
 intro KC hKC
 rw[a8 (by kernel_rfl)]
 obtain⟨c0,z0⟩:=HRD.o.at_ dF hh
 have E4:Hid (Hg w (U3.setCell ⟨gL,h,none⟩ (.int .i64 (cf C h))) SB h x ka kc ks n gL ((List.replicate n 0).set h (cf C h))/\WQ E n (fun b=>decide ((b:Int)∈ks)) I C h pl ((List.replicate n 0).set h (cf C h)) 0 0):=⟨HRD.o.put h _,WQ.start hh (En H.o.1.cc h)⟩
 go_simp
 refine hKC.o _ _ (KS _ E4.o.1.bel E4.o.1.lb) (fun hHeld=> ?_)
 clear hKC KC
 refine wpAnyH_done (by kernel_rfl) ?_ _
 clear hHeld KS c0 z0 HRD
 generalize U3.setCell ⟨gL,h,none⟩ (.int .i64 (cf C h))=U4 at E4⊢
 generalize (List.replicate n (0:Int)).set h (cf C h)=L0 at E4
 obtain⟨c11,c12,c15,c16⟩:=KCELL.o U4 E4.o.1.bel
 go_wp2_with fail
 go_step3
 go_wp2_with fail
 clear c11 c12 c15 c16
 go_loopw [8,45] (fun sm i wr=>∃(k:Nat) (L:List Int),k<=R.length/\sm=.bool true/\i=.int .i64 k/\Hid (Hg w wr SB h x ka kc ks n gL L/\WQ E n (fun b=>decide ((b:Int)∈ks)) I C h pl L k 0)) (fun _ i _=>R.length-(intOf i).toNat)
 case atStart=>exact⟨0,L0,by omega,rfl,rfl,E4⟩
 case round=>
 clear E4
 obtain⟨k,L,hk,rfl,rfl,HW⟩:=hrel
 by_cases hlt:k<R.length
 case neg=>
  have HE:Hid (RF w n E ks I C h pl (.returned (.tuple #[.slice (some ⟨gL,0,none⟩) n n,.bool true])) wr):=⟨gL,L,true,rfl,fun _=>⟨fun c hc=>(HW.o.1.at_ HW.o.2.len hc).1,HW.o.2.cst⟩,.inl ⟨rfl,k,HW.o.2,fun b hb=>by have:=(aD.1 (H.o.2.1.p1 b hb)).1;omega⟩,HW.o.1.bel⟩
  go_wp2_with fail
  try rw[Exit.noGoto_ret]
  exact bC (v:=.tuple #[.slice (some ⟨gL,0,none⟩) n n,.bool true]) (by simp[results,Tryz.results61,go_sem]) rfl HE.o
 have hltI:(k:Int)<(R.length:Int):=by omega
 obtain⟨b,hb⟩:∃b,R[k]?=some b:=⟨_,aA hlt⟩
 have hbn:b<n:=H.o.2.1.rb b (aE hb)
 have HPB:Hid (pl b=k/\∀b',b'<n->pl b'=k->b'=b):=⟨H.o.2.1.p2 k b hb,fun b' h1 h2=>by
  have:=H.o.2.1.p1 b' h1
  rw[h2,hb]at this
  exact(ae this).symm⟩
 have o0:wr.cell? ⟨go,oo+k,none⟩=some (.int .i64 (b:Int)):=by
  obtain⟨go',oo',q1,_,q3⟩:=(H.o.2.1.keep HW.o.1.bel).od
  rw[HV.o.2.2.1]at q1
  cases q1
  exact q3 k b hb
 obtain⟨cnt,D,s1,s2⟩:=HW.o.1.set
 have hcon:=Kg SB cnt D (b:Int) wr (Dl (by omega)) s1
 rw[s2 (b:Int)]at hcon
 clear s1 s2 hb
 by_cases hib:(b:Int)∈ks
 case neg=>
  rw[bI hib]at hcon
  have HC:=AS hcon
  clear hcon
  go_wp2_with fail
  refine HC.o.mono ?_
  rintro e u5 ⟨rfl,bb⟩
  have HW5:Hid (Hg w u5 SB h x ka kc ks n gL L/\WQ E n (fun b=>decide ((b:Int)∈ks)) I C h pl L (k+1) 0):=⟨HW.o.1.keep bb,HW.o.2.skipB fun b' h1 h2=>by rw[HPB.o.2 b' h1 h2];simpa using hib⟩
  clear bb o0
  go_wp2_with fail
  go_roundw
  case rel=>exact⟨k+1,L,by omega,by trivial,by go_num,HW5⟩
  case measure=>simp[intOf];omega
 rw[decide_eq_true hib]at hcon
 have HC:=AS hcon
 clear hcon
 go_wp2_with fail
 refine HC.o.mono ?_
 rintro e u5 ⟨rfl,bb⟩
 have HW5:Hid (Hg w u5 SB h x ka kc ks n gL L/\WQ E n (fun b=>decide ((b:Int)∈ks)) I C h pl L k 0):=⟨HW.o.1.keep bb,HW.o.2⟩
 clear bb o0 HC HW
 obtain⟨c11,c12,c15,c16⟩:=KCELL.o u5 HW5.o.1.bel
 obtain⟨s0,hfn⟩:=(H.o.1.keep HW5.o.1.bel).sAt hbn
 obtain⟨na,nc,g0,hnr⟩:∃a c,u5.cell? ⟨gb,ob+b*3+2,none⟩=some (.slice a (E b).length c)/\DR u5 (.slice a (E b).length c) (E b):=by
  obtain⟨gb',ob',q1,_,q3⟩:=(H.o.2.1.keep HW5.o.1.bel).gr
  rw[HV.o.1]at q1
  cases q1
  exact q3 b hbn
 have HNR:Hid (∀u,Below w.heap.size w u->DR u (.slice na (E b).length nc) (E b)):=fun u hu=>by
  obtain⟨gb',ob',q1,_,q3⟩:=H.o.2.1.gr
  rw[HV.o.1]at q1
  cases q1
  obtain⟨a',c',e1,e2⟩:=q3 b hbn
  have e3:=Ad HW5.o.1.bel e1
  rw[g0]at e3
  simp only[aR,aF,aw]at e3
  rw[e3.1,e3.2]
  exact e2.keep hu
 obtain⟨f,hf⟩:∃f,jf I b=f:=⟨_,rfl⟩
 have HFB:=AS hf
 rw[hf]at s0 hfn
 have hbI:(b:Int)<(n:Int):=by omega
 have hfI:(f:Int)<(n:Int):=by omega
 have hEl:(E b).length<=1024:=H.o.2.1.sz b
 have HIB:=AS hib
 clear hnr hf hib
 generalize hel:(E b).length=el at g0 HNR hEl
 have HEL:=AS hel
 clear hel
 go_wp2_with fail
 clear c11 c12 c15 c16 s0 g0
 go_loopw [8,71] (fun sm i wr=>∃(q:Nat) (L:List Int),q<=el/\sm=.bool true/\i=.int .i64 q/\Hid (Hg w wr SB h x ka kc ks n gL L/\WQ E n (fun b=>decide ((b:Int)∈ks)) I C h pl L k q)) (fun _ i _=>el-(intOf i).toNat)
 case atStart=>exact⟨0,L,by omega,rfl,rfl,HW5⟩
 case round=>
 clear HW5 L
 obtain⟨q,L,hq,rfl,rfl,HW⟩:=hrel
 by_cases hqt:q<el
 case neg=>
  have HW6:Hid (Hg w wr SB h x ka kc ks n gL L/\WQ E n (fun b=>decide ((b:Int)∈ks)) I C h pl L (k+1) 0):=⟨HW.o.1,HW.o.2.nextB fun b' h1 h2=>by rw[HPB.o.2 b' h1 h2,HEL.o];omega⟩
  clear HW
  go_wp2_with fail
  go_roundw
  case rel=>exact⟨k+1,L,by omega,by trivial,by go_num,HW6⟩
  case measure=>simp[intOf];omega
 have hqI:(q:Int)<(el:Int):=by omega
 obtain⟨y,hy⟩:∃y,(E b)[q]?=some y:=⟨_,aA (by rw[HEL.o];exact hqt)⟩
 have hyn:y<n:=H.o.2.1.eb b hbn y (aE hy)
 obtain⟨ng,no,ena,e0⟩:∃g o,na=some ⟨g,o,none⟩/\wr.cell? ⟨g,o+q,none⟩=some (.int .i64 (y:Int)):=by
  rcases(HNR.o wr HW.o.1.bel).2 with⟨q0,_⟩|⟨g,o,c',e1,hc⟩
  . rw[HEL.o]at q0;omega
  . simp only[aF]at e1
    exact⟨g,o,e1.1,hc q _ (JN hy)⟩
 obtain⟨s0,htn⟩:=(H.o.1.keep HW.o.1.bel).sAt hyn
 obtain⟨t,ht⟩:∃t,jf I y=t:=⟨_,rfl⟩
 rw[ht]at s0 htn
 have HTY:Hid (jf I y=t/\(E b)[q]?=some y):=⟨ht,hy⟩
 have hyI:(y:Int)<(n:Int):=by omega
 have htI:(t:Int)<(n:Int):=by omega
 obtain⟨c11,c12,c15,c16⟩:=KCELL.o wr HW.o.1.bel
 obtain⟨cnt,D,s1,s2⟩:=HW.o.1.set
 have hcon:=Kg SB cnt D (y:Int) wr (Dl (by omega)) s1
 rw[s2 (y:Int)]at hcon
 clear s1 s2 hy ht
 subst ena
 by_cases hiy:(y:Int)∈ks
 case neg=>
  rw[bI hiy]at hcon
  have HC:=AS hcon
  clear hcon
  go_wp2_with fail
  refine HC.o.mono ?_
  rintro e u6 ⟨rfl,bb⟩
  have HW6:Hid (Hg w u6 SB h x ka kc ks n gL L/\WQ E n (fun b=>decide ((b:Int)∈ks)) I C h pl L k (q+1)):=⟨HW.o.1.keep bb,HW.o.2.skipE HPB.o.2 HTY.o.2 fun hq=>hiy (by simpa using hq.1.2)⟩
  have l0:=HW6.o.1.lb.cell 0
  simp only[am,aM]at l0
  clear bb HC HW c11 c12 c15 c16 s0 e0
  go_wp2_with fail
  go_roundw
  case rel=>exact⟨q+1,L,by omega,by trivial,by go_num,HW6⟩
  case measure=>simp[intOf];omega
 rw[decide_eq_true hiy]at hcon
 have HC:=AS hcon
 have HIY:=AS hiy
 clear hcon hiy
 go_wp2_with fail
 refine HC.o.mono ?_
 rintro e u6 ⟨rfl,bb⟩
 have HW6:Hid (Hg w u6 SB h x ka kc ks n gL L/\WQ E n (fun b=>decide ((b:Int)∈ks)) I C h pl L k q):=⟨HW.o.1.keep bb,HW.o.2⟩
 have l0:=HW6.o.1.lb.cell 0
 simp only[am,aM]at l0
 clear bb HC HW c11 c12 c15 c16 s0 e0
 by_cases htf:t=f
 case pos=>
  have HW7:Hid (Hg w u6 SB h x ka kc ks n gL L/\WQ E n (fun b=>decide ((b:Int)∈ks)) I C h pl L k (q+1)):=⟨HW6.o.1,HW6.o.2.skipE HPB.o.2 HTY.o.2 fun hq=>hq.2.1 (by rw[HTY.o.1,HFB.o,htf])⟩
  subst htf
  clear HW6
  go_wp2_with fail
  go_roundw
  case rel=>exact⟨q+1,L,by omega,by trivial,by go_num,HW7⟩
  case measure=>simp[intOf];omega
 have htf1:¬(t:Int)=(f:Int):=by omega
 have htf2:((t:Int)==(f:Int))=false:=by simpa using htf1
 by_cases hth:t=h
 case pos=>
  have HW7:Hid (Hg w u6 SB h x ka kc ks n gL L/\WQ E n (fun b=>decide ((b:Int)∈ks)) I C h pl L k (q+1)):=⟨HW6.o.1,HW6.o.2.skipE HPB.o.2 HTY.o.2 fun hq=>hq.2.2 (by rw[HTY.o.1,hth])⟩
  subst hth
  clear HW6
  go_wp2_with fail
  go_roundw
  case rel=>exact⟨q+1,L,by omega,by trivial,by go_num,HW7⟩
  case measure=>simp[intOf];omega
 have hth1:¬(t:Int)=(h:Int):=by omega
 have hth2:((t:Int)==(h:Int))=false:=by simpa using hth1
 go_upto_region 16 with fail
 clear l0
 obtain⟨yo,hyo⟩:∃z,cf L t=z:=⟨_,rfl⟩
 obtain⟨yf,hyf⟩:∃z,cf L f=z:=⟨_,rfl⟩
 obtain⟨yc,hyc⟩:∃z,cf C t=z:=⟨_,rfl⟩
 have b1:CW yo:=hyo▸En HW6.o.2.cst t
 have b2:CW yf:=hyf▸En HW6.o.2.cst f
 have b3:CW yc:=hyc▸En H.o.1.cc t
 obtain⟨b11,b12⟩:=b1
 obtain⟨b21,b22⟩:=b2
 obtain⟨b31,b32⟩:=b3
 have HYY:Hid (cf L t=yo/\cf L f=yf/\cf C t=yc):=⟨hyo,hyf,hyc⟩
 have KS:∀w',Hg w w' SB h x ka kc ks n gL L->w'.cell? ⟨gL,t,none⟩=some (.int .i64 yo)/\w'.cell? ⟨gL,f,none⟩=some (.int .i64 yf)/\w'.cell? ⟨CB,15,none⟩=some (.slice (some ⟨gC,0,none⟩) n cC)/\w'.cell? ⟨gC,t,none⟩=some (.int .i64 yc):=fun w' hW=>by
  have i1:=(hW.at_ HW6.o.2.len htn).1
  have i2:=(hW.at_ HW6.o.2.len hfn).1
  have i3:=(H.o.1.keep hW.bel).cAt htn
  rw[hyo]at i1
  rw[hyf]at i2
  rw[hyc]at i3
  exact⟨i1,i2,(KCELL.o w' hW.bel).2.2.1,i3⟩
 have HW7:Hid (Hg w u6.drew SB h x ka kc ks n gL L):=HW6.o.1.keep (Ae _)
 refine CR 20 (S:=fun w'=>w'.cell? ⟨gL,t,none⟩=some (.int .i64 yo)/\w'.cell? ⟨gL,f,none⟩=some (.int .i64 yf)/\w'.cell? ⟨CB,15,none⟩=some (.slice (some ⟨gC,0,none⟩) n cC)/\w'.cell? ⟨gC,t,none⟩=some (.int .i64 yc)) (by kernel_rfl) (KS _ HW7.o) (fun hHeld=> ?_)
 clear hyo hyf hyc
 generalize u6.drew=U7 at HW7 hHeld⊢
 have wr1:IntKind.i64.wrap (yf+yc)=yf+yc:=dI _ ⟨by omega,by omega⟩
 refine EC 0 ?_ (hw:=by kernel_rfl)
 refine EC 1 ?_ (hw:=by kernel_rfl)
 refine EC 2 ?_ (hw:=by kernel_rfl)
 refine EC 3 ?_ (hw:=by kernel_rfl)
 refine EC 4 ?_ (hw:=by kernel_rfl)
 refine EC 5 ?_ (hw:=by kernel_rfl)
 refine EC 6 ?_ (hw:=by kernel_rfl)
 refine EC 7 ?_ (hw:=by kernel_rfl)
 refine EC 8 ?_ (hw:=by kernel_rfl)
 refine EC 9 ?_ (hw:=by kernel_rfl)
 refine EC 10 ?_ (hw:=by kernel_rfl)
 refine EC 11 ?_ (hw:=by kernel_rfl)
 refine EC 12 ?_ (hw:=by kernel_rfl)
 refine EC 13 ?_ (hw:=by kernel_rfl)
 refine EC 14 ?_ (hw:=by kernel_rfl)
 refine EC 15 ?_ (hw:=by kernel_rfl)
 refine EC 16 ?_ (hw:=by kernel_rfl)
 refine EC 17 ?_ (hw:=by kernel_rfl)
 refine EC 18 ?_ (hw:=by kernel_rfl)
 refine EC 19 ?_ (hw:=by kernel_rfl)
 go_simp
 refine QZ 20 ?_
 intro KC hKC
 rw[a8 (by kernel_rfl)]
 obtain⟨c0,z0⟩:=HW7.o.at_ HW6.o.2.len htn
 rw[HYY.o.1]at c0
 have c9:=World.cell?_setCell_same' U7 ⟨gL,t,none⟩ (.int .i64 (max yo (yf+yc))) (by rw[c0];rfl)
 have HW8:Hid (Hg w (U7.setCell ⟨gL,t,none⟩ (.int .i64 (max yo (yf+yc)))) SB h x ka kc ks n gL (L.set t (max yo (yf+yc)))):=HW7.o.put t _
 go_simp
 refine hKC.o _ _ (fun hlt=>absurd hlt (by omega)) (fun hH=> ?_)
 clear hKC KC hH hHeld
 refine Fa (by kernel_rfl) ?_ _
 clear c0 z0 KS HW7
 generalize hmx:max yo (yf+yc)=mx at c9 HW8⊢
 have HMX:=AS hmx
 have hmx0:0<=mx:=by omega
 clear hmx
 generalize U7.setCell ⟨gL,t,none⟩ (.int .i64 mx)=U8 at c9 HW8⊢
 go_wp2_with fail
 refine(Er mx U8).mono ?_
 rintro e u9 ⟨rfl,rfl⟩
 by_cases hbig:mx<=4294967295
 . rw[decide_eq_true (show 0<=mx/\mx<=4294967295 from⟨hmx0,hbig⟩)]
   have HW9:Hid (Hg w u9 SB h x ka kc ks n gL (L.set t mx)/\WQ E n (fun b=>decide ((b:Int)∈ks)) I C h pl (L.set t mx) k (q+1)):=⟨HW8.o,by
    have:=HW6.o.2.over HPB.o.2 ⟨hbn,by simpa using HIB.o⟩ HPB.o.1 HTY.o.2 ⟨hyn,by simpa using HIY.o⟩ (by rw[HTY.o.1,HFB.o];exact htf) (by rw[HTY.o.1];exact hth) (by rw[HTY.o.1];exact htn) (by rw[HTY.o.1,HYY.o.2.2];exact b31) (by rw[HTY.o.1,HFB.o,HYY.o.1,HYY.o.2.1,HYY.o.2.2,HMX.o];exact hbig)
    rw[HTY.o.1,HFB.o,HYY.o.1,HYY.o.2.1,HYY.o.2.2,HMX.o]at this
    exact this⟩
   clear HW6 HW8
   go_wp2_with fail
   go_roundw
   case rel=>exact⟨q+1,L.set t mx,by omega,by trivial,by go_num,HW9⟩
   case measure=>simp[intOf];omega
 . rw[bI (show¬(0<=mx/\mx<=4294967295)from fun h=>hbig h.2)]
   have HE:Hid (RF w n E ks I C h pl (.returned (.tuple #[.slice (some ⟨gL,0,none⟩) n n,.bool false])) u9):=⟨gL,[],false,rfl,fun h=>(by cases h),.inr ⟨rfl,HW6.o.2.bad ⟨hbn,by simpa using HIB.o⟩ HTY.o.2 ⟨hyn,by simpa using HIY.o⟩ (by rw[HTY.o.1,HFB.o];exact htf) (by rw[HTY.o.1];exact hth) (by rw[HTY.o.1,HFB.o,HYY.o.1,HYY.o.2.1,HYY.o.2.2,HMX.o];exact hbig)⟩,HW8.o.bel⟩
   clear HW6 HW8
   go_wp2_with fail
   try rw[Exit.noGoto_ret]
   exact bC (v:=.tuple #[.slice (some ⟨gL,0,none⟩) n n,.bool false]) (by simp[results,Tryz.results61,go_sem]) rfl HE.o
end Go.Proofs.YtdipfjmlfbdkdaaGreat
