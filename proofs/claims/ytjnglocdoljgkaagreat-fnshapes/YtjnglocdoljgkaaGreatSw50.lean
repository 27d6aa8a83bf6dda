import Derived.Test.YtjnglocdoljgkaaGreatSw49
namespace Go.Proofs.YtjnglocdoljgkaaGreat
open Go.ChangeShapes Go.WideShapes Go.ChangeAt Go.RowKit
set_option linter.unusedVariables false
open Go.Value renaming slice → Z
open Option renaming some → K,none → M
open Go renaming Value → J,World → Y,Calls → Ae,TypeId → Af
open Go.RowKit renaming Hid → Aa,Below → Ad
set_option maxHeartbeats 8000000
set_option maxRecDepth 100000
theorem ME(a:List MF):∀(n:Nat) (done:List Int),(∀z∈done,∃q:Nat,z=(q:Int)/\q< ↑a)->(∀z∈GB a n done,∃q:Nat,z=(q:Int)/\q< ↑a)/\(GB a n done).length<= ↑done+n:=by
 intro n;induction n with
 |zero=>intro done h;exact⟨h,Nat.le_refl _⟩
 | succ n j=>
   intro done h;unfold GB;split
   . rename_i i f;(have g:i<a.length:=by have:=List.mem_of_find?_eq_some f;simpa using this);obtain⟨h1,h2⟩:=j (done++[(i:Int)]) λz b=>by
      rcases kS.1 b with e|e
      . exact h z e
      exact⟨i,lT.1 e,g⟩
     refine⟨h1,?_⟩;rw[kJ,kQ]at h2;omega
   exact⟨λz b=>(by cases b),sP⟩
def Wk(w:Y)(n:Nat)(e:Ending)(u':Y):Prop:=∃(c f a:Int) (vC vD:J),e=.returned (.agg #[iZ c,iZ f,iZ a,vC,vD])/\Ad w w u'/\(∃h j c1 i k c2,vC=Z h j c1/\vD=Z i k c2)/\(c=0->∃(g b:Nat) (C:List Int),vC=sG g n b/\ ↑C=n/\u'.ownsRow w 2 1 (sG g n b) n (C.flatMap Ah))
structure Bp(w u:Y)(X OB:Nat)(kc kd:Nat)(P4:Array J)(vC vD:J)(C D:List Int):Prop where
 pb:Ar u X P4 28
 rb:Ar u (X+1) #[iZ 0,iZ 0,iZ 0,sN,sN] 114
 ob:Ar u OB #[iZ 0,iZ 0,iZ 0,vC,vD] 114
 lo:X+1< ↑w/\ ↑w<=OB
 c:u.ownsRow w 2 1 vC kc (C.flatMap Ah)
 d:u.ownsRow w 2 1 vD kd (D.flatMap Ah)
 ne:∀b,vC.ownBlock=K b->vD.ownBlock=K b->False
 cl: ↑C=kc
 dl: ↑D=kd
 gG:Ad w w u
section
variable {w u u':Y} {X OB kc kd:Nat} {P4:Array J} {vC vD:J} {C D:List Int}
theorem Bp.bM(h:Bp w u X OB kc kd P4 vC vD C D)(a:Ad u u u'):Bp w u' X OB kc kd P4 vC vD C D:={h with pb:=h.pb.bM a,rb:=h.rb.bM a,ob:=h.ob.bM a,c:=Am h.c a lR,d:=Am h.d a lR,gG:=Ai h.gG lR a}
theorem Bp.jl(h:Bp w u X OB kc kd P4 vC vD C D)(z:Int)(V:J)(l:u'.ownsRow w.heap.size 2 1 V (kc+1) (C.flatMap Ah++[iZ z]))(f:u.grownBy u' vC.ownBlock)(m:V.ownBlock=vC.ownBlock\/V.ownBlock=K u.heap.size):Bp w (u'.setCell ⟨OB,3,M⟩ V) X OB (kc+1) kd P4 V vD (C++[z]) D/\u'.cell? ⟨OB,3,M⟩=K vC/\u'.frozen? ⟨OB,3,M⟩=false:=by
 have k:=h.lo;have g:Ar u' OB _ _:=h.ob.grown f h.c dC;have r:Ar u' X _ _:=h.pb.grown f h.c dC;have s:Ar u' (X+1) _ _:=h.rb.grown f h.c dC;have i:u'.ownsRow w.heap.size 2 1 vD kd (D.flatMap Ah):=EI h.d f (λb n q=>h.ne b q.symm n);refine⟨⟨r.other (a:=⟨OB,3,M⟩) (by show X≠OB;omega) _,s.other (a:=⟨OB,3,M⟩) (by show X+1≠OB;omega) _,by have:=g.set 3 V;simpa using this,k,?_,kO i (a:=⟨OB,3,M⟩) (λq=>Bu i g dC _ q rfl) _, λb h1 h2=> ?_,by rw[kJ,h.cl];rfl,h.dl,((h.gG.grown f h.gG.size (λj p=>(h.c.lt j p).1)).setCell k.2 _)⟩,by rw[g.cell];rfl,g.frozen 3⟩
 . rw[lJ];exact kO l (a:=⟨OB,3,M⟩) (λq=>Bu l g dC _ q rfl) V
 rcases m with e|e
 . exact h.ne b (e▸h1) h2
 rw[e]at h1;have:=Kj h.d h2;simp only[kK]at h1;omega
theorem Bp.jS(h:Bp w u X OB kc kd P4 vC vD C D)(z:Int)(V:J)(k:u'.ownsRow w.heap.size 2 1 V (kd+1) (D.flatMap Ah++[iZ z]))(f:u.grownBy u' vD.ownBlock)(l:V.ownBlock=vD.ownBlock\/V.ownBlock=K u.heap.size):Bp w (u'.setCell ⟨OB,4,M⟩ V) X OB kc (kd+1) P4 vC V C (D++[z])/\u'.cell? ⟨OB,4,M⟩=K vD/\u'.frozen? ⟨OB,4,M⟩=false:=by
 have i:=h.lo;have g:Ar u' OB _ _:=h.ob.grown f h.d dC;have p:Ar u' X _ _:=h.pb.grown f h.d dC;have r:Ar u' (X+1) _ _:=h.rb.grown f h.d dC;have c':u'.ownsRow w.heap.size 2 1 vC kc (C.flatMap Ah):=EI h.c f (λb m q=>h.ne b m q.symm);refine⟨⟨p.other (a:=⟨OB,4,M⟩) (by show X≠OB;omega) _,r.other (a:=⟨OB,4,M⟩) (by show X+1≠OB;omega) _,by have:=g.set 4 V;simpa using this,i,kO c' (a:=⟨OB,4,M⟩) (λq=>Bu c' g dC _ q rfl) _,?_, λb h1 h2=> ?_,h.cl,by rw[kJ,h.dl];rfl,((h.gG.grown f h.gG.size (λj n=>(h.d.lt j n).1)).setCell i.2 _)⟩,by rw[g.cell];rfl,g.frozen 4⟩
 . rw[lJ];exact kO k (a:=⟨OB,4,M⟩) (λq=>Bu k g dC _ q rfl) V
 rcases l with e|e
 . exact h.ne b h1 (e▸h2)
 rw[e]at h2;have:=Kj h.c h1;simp only[kK]at h2;omega
end
structure Bq(w u:Y)(X OB gc cc gd cd n:Nat)(P4:Array J):Prop where
 bd:Bd w u u u gc cc gd cd n
 pb:Ar u X P4 28
 rb:Ar u (X+1) #[iZ 0,iZ 0,iZ 0,sN,sN] 114
 ob:Ar u OB #[iZ 0,iZ 0,iZ 0,sG gc n cc,sG gd n cd] 114
 lo:X+1< ↑w
theorem Bq.bM{w u u':Y}{X OB f b g e n:Nat}{P4:Array J}(h:Bq w u X OB f b g e n P4)(a:Ad u u u'):Bq w u' X OB f b g e n P4:=⟨(h.bd.bM a).re,h.pb.bM a,h.rb.bM a,h.ob.bM a,h.lo⟩
theorem Gt{u:Y}{B k n c g b:Nat}{e t:Af}{xs:List J}{f:Array J}(h:u.ownsRow B e k (sG g n c) n xs)(a:Ar u b f t)(j:e≠t):b≠g:= λq=>by
 obtain⟨_,c1,i⟩:=AD h;unfold Ar at a;rw[q,i]at a;injection a with a
 injection a with _ a
 exact j a
theorem Bq.set{w u:Y}{X OB e g f j n b:Nat}{P4:Array J}(h:Bq w u X OB e g f j n P4)(t:b≠X/\b≠X+1/\b≠OB/\ ↑w<=b/\b≠e/\b≠f)(i:Nat)(V:J):Bq w (u.setCell ⟨b,i,M⟩ V) X OB e g f j n P4:=by obtain⟨h1,h2,p,q,r,s⟩:=t;obtain⟨C,c1,c2⟩:=h.bd.c;obtain⟨D,l,m⟩:=h.bd.d;have c3:=Ck (i:=i) (z:=V) c2 r.symm;have k:=Ck (i:=i) (z:=V) m s.symm;exact⟨⟨⟨C,c1,c3⟩,⟨D,l,k⟩,h.bd.ne,h.bd.gG.setCell q _,⟨(c3.lt e rfl).2,(k.lt f rfl).2,by rw[mB];exact h.bd.gG.size⟩,Nat.le_refl _, λ_ _ _ _=>rfl⟩,h.pb.other (a:=⟨b,i,M⟩) h1.symm _,h.rb.other (a:=⟨b,i,M⟩) h2.symm _,h.ob.other (a:=⟨b,i,M⟩) p.symm _,h.lo⟩
theorem Bq.of{w u u':Y}{X OB g e i f n:Nat}{P4:Array J}(h:Bq w u X OB g e i f n P4)(l:Bd w u u' u g e i f n):Bq w u' X OB g e i f n P4:=by
 obtain⟨C,c1,c2⟩:=h.bd.c;obtain⟨D,q,p⟩:=h.bd.d;have j:∀{b:Nat} {k:Array J} {t:Af},2≠t->Ar u b k t->Ar u' b k t:= λm a=>by have:=l.fr _ a.lt (Gt c2 a m) (Gt p a m);unfold Ar at a⊢;rw[this];exact a
 exact⟨l.re,j dC h.pb,j dC h.rb,j dC h.ob,h.lo⟩
theorem Us{q:Prop}(h:q:=by
 by_cases hc0:rc=0;case pos=>
  subst hc0;have t0:=(Dn EZ.o.2).1;go_wp2_with fail;go_roundw;case rel=>exact⟨j+1,by omega,by go_num,EZ.o.1⟩
  simp[intOf];omega
 case neg=>
  have hc0':(rc != 0)=true:=by simpa using hc0
  obtain⟨t0,t1',t2,t3',t4⟩:=Dn EZ.o.2;have EX:=Ap (HW3.o.trans (EZ.o.1.bd.gG.mono HW3.o.size));obtain⟨a0,a1',a2,a3,a4⟩:=Dn EZ.o.1.rb;obtain⟨fz0,fz1,fz2,fz3,fz4⟩:=Kd EZ.o.1.rb;go_wp2_with fail;have G:Aa _:=((((EZ.o.1.rb.set 0 (iZ rc)).set 1 (iZ rf)).set 2 (iZ ra)).set 3 sN).set 4 sN;simp only[kV,lI,lM]at G;obtain⟨a0,a1',a2,a3,a4⟩:=Dn G.o;exact kY (v:=.agg #[iZ rc,iZ rf,iZ ra,sN,sN]) (by simp[results,Tryz.results49,go_sem,a0,a1',a2,a3,a4]) rfl ⟨rc,rf,ra,sN,sN,rfl,((((((EX.o).setCell (by show ↑w<=X+1;rw[HX.o];omega) _).setCell (by show ↑w<=X+1;rw[HX.o];omega) _).setCell (by show ↑w<=X+1;rw[HX.o];omega) _).setCell (by show ↑w<=X+1;rw[HX.o];omega) _).setCell (by show ↑w<=X+1;rw[HX.o];omega) _),⟨_,_,_,_,_,_,rfl,rfl⟩, λe=>absurd e hc0⟩):q:=h
theorem L7(v:VP)(p:MP)(w:Y)(hs:p.small)(hw:p.wf)(h:Cz w v p):
 Ae Tryz.prog 49 #[.agg #[v.r,v.k,v.f,v.t]] w (Wk w p.cC):=by
 obtain⟨aI,hi,aF,aG,aH⟩:=lU Bt;obtain⟨s,y,g,l,A,B,f1,f3,rfl⟩:=h.sl;have bj:=hs.cC;have H:=Ap (ji hs (ji hw h));obtain⟨X,hX⟩:∃X,w.heap.size=X:=⟨_,rfl⟩;have E0:Aa (Ar ((w.alloc (.cells #[Z s p.a7.length y,Z g p.aC.length l,Z f1 p.cC.length f3,Z A p.dr.length B] 28)).alloc (.cells #[iZ 0,iZ 0,iZ 0,sN,sN] 114)) X #[Z s p.a7.length y,Z g p.aC.length l,Z f1 p.cC.length f3,Z A p.dr.length B] 28/\Ar ((w.alloc (.cells #[Z s p.a7.length y,Z g p.aC.length l,Z f1 p.cC.length f3,Z A p.dr.length B] 28)).alloc (.cells #[iZ 0,iZ 0,iZ 0,sN,sN] 114)) (X+1) #[iZ 0,iZ 0,iZ 0,sN,sN] 114/\Ad X w ((w.alloc (.cells #[Z s p.a7.length y,Z g p.aC.length l,Z f1 p.cC.length f3,Z A p.dr.length B] 28)).alloc (.cells #[iZ 0,iZ 0,iZ 0,sN,sN] 114))):=by have e:=Ef w #[Z s p.a7.length y,Z g p.aC.length l,Z f1 p.cC.length f3,Z A p.dr.length B] #[iZ 0,iZ 0,iZ 0,sN,sN] 28 114;rw[hX]at e;exact e
 have HX:=Ap hX;go_enter Tryz.func49,Tryz.ntmps49;go_upto_region 1 with fail
 refine An (λU=>Aa (Ar U X #[Z s p.a7 y,Z g p.aC l,Z f1 p.cC f3,Z A p.dr B] 28/\Ar U (X+1) #[iZ 0,iZ 0,iZ 0,sN,sN] 114/\Ad X w U)) E0 ?_
 rintro U E1;obtain⟨p0,p1,p2,p3⟩:=Bi E1.o.1;have ae:Aa (∀U,Ad X w U->Ad w w U):= λU hU=>by rw[HX.o];exact hU
 go_wp2_with fail;refine(CZ ⟨Z s p.a7 y,Z g p.aC l,Z f1 p.cC f3,Z A p.dr B⟩ p U H.o.1 H.o.2.1 (H.o.2.2.bM (ae.o _ E1.o.2.2) lR)).mono ?_;rintro e u1 ⟨⟨n,rfl,hn⟩,bb⟩;have E2:=Ap (ji (E1.o.1.bM bb) (ji (E1.o.2.1.bM bb) (Ai E1.o.2.2 (by rw[HX.o];exact Nat.le_refl _) bb)));by_cases aE:n=0;case neg=>
  have bg:(n != 0)=true:=by simpa using aE
  obtain⟨a0,a1',a2,a3,a4⟩:=Dn E2.o.2.1;obtain⟨fz0,fz1,fz2,fz3,fz4⟩:=Kd E2.o.2.1;go_wp2_with fail;have G:Aa _:=((((E2.o.2.1.set 0 (iZ 1)).set 1 (iZ 0)).set 2 (iZ 0)).set 3 sN).set 4 sN;simp only[kV,lI,lM]at G;obtain⟨a0,a1',a2,a3,a4⟩:=Dn G.o;exact kY (v:=.agg #[iZ 1,iZ 0,iZ 0,sN,sN]) (by simp[results,Tryz.results49,go_sem,a0,a1',a2,a3,a4]) rfl ⟨1,0,0,sN,sN,rfl,((((((ae.o _ E2.o.2.2).setCell (by show ↑w<=X+1;rw[HX.o];omega) _).setCell (by show ↑w<=X+1;rw[HX.o];omega) _).setCell (by show ↑w<=X+1;rw[HX.o];omega) _).setCell (by show ↑w<=X+1;rw[HX.o];omega) _).setCell (by show ↑w<=X+1;rw[HX.o];omega) _),⟨_,_,_,_,_,_,rfl,rfl⟩, λe=>absurd e dC⟩
 subst aE;have aq:=Ap hn;obtain⟨p0,p1,p2,p3⟩:=Bi E2.o.1;go_wp2_with fail;refine(L8 ⟨Z s p.a7 y,Z g p.aC l,Z f1 p.cC f3,Z A p.dr B⟩ p u1 H.o.1 H.o.2.1 (H.o.2.2.bM (ae.o _ E2.o.2.2) lR)).mono ?_;rintro e a ⟨V,zs,rfl,hV,hO,bb⟩;obtain⟨aV,cV,eV⟩:=hV.fu;subst eV;have E3:=Ap (ji (E2.o.1.bM bb) (ji (E2.o.2.1.bM bb) (Ai E2.o.2.2 (by rw[HX.o];exact Nat.le_refl _) bb)));have HO:Aa (Rd a 1 (Z aV zs cV) zs (zs.flatMap Ah)/\∀z∈zs,∃q:Nat,z=(q:Int)/\q< ↑p.cC):=⟨hV,by
  rcases hO with⟨_,e⟩|⟨e,_⟩
  . rw[e];exact(ME p.cC p.cC [] (λz hz=>by cases hz)).1
  exact absurd aq.o e⟩
 have bq:zs.length<=1048576:=by
  rcases hO with⟨_,e⟩|⟨e,_⟩
  . rw[e];have:=(ME p.cC p.cC [] (λz hz=>by cases hz)).2;unfold IC;simp at this;omega
  exact absurd aq.o e
 by_cases bp:zs.length=0;case pos=>
  have aX:((zs:Int)==0)=true:=by rw[beq_iff_eq];omega
  obtain⟨a0,a1',a2,a3,a4⟩:=Dn E3.o.2.1;obtain⟨fz0,fz1,fz2,fz3,fz4⟩:=Kd E3.o.2.1;go_wp2_with fail;have G:Aa _:=((((E3.o.2.1.set 0 (iZ 2)).set 1 (iZ 0)).set 2 (iZ 0)).set 3 sN).set 4 sN;simp only[kV,lI,lM]at G;obtain⟨a0,a1',a2,a3,a4⟩:=Dn G.o;exact kY (v:=.agg #[iZ 2,iZ 0,iZ 0,sN,sN]) (by simp[results,Tryz.results49,go_sem,a0,a1',a2,a3,a4]) rfl ⟨2,0,0,sN,sN,rfl,((((((ae.o _ E3.o.2.2).setCell (by show ↑w<=X+1;rw[HX.o];omega) _).setCell (by show ↑w<=X+1;rw[HX.o];omega) _).setCell (by show ↑w<=X+1;rw[HX.o];omega) _).setCell (by show ↑w<=X+1;rw[HX.o];omega) _).setCell (by show ↑w<=X+1;rw[HX.o];omega) _),⟨_,_,_,_,_,_,rfl,rfl⟩, λe=>absurd e dC⟩
 have aX:((zs:Int)==0)=false:=by rw[nD];omega
 have F0:Aa (Bp a (a.alloc (.cells #[iZ 0,iZ 0,iZ 0,sN,sN] 114)) X a 0 0 #[Z s p.a7 y,Z g p.aC l,Z f1 p.cC f3,Z A p.dr B] sN sN [] []):=⟨E3.o.1.bM (Ag _ _),E3.o.2.1.bM (Ag _ _),Ar.new _ _ _,⟨E3.o.2.1.lt,Nat.le_refl _⟩,lq _ _ _ _,lq _ _ _ _, λb hb=>(by cases hb),rfl,rfl,Ag _ _⟩;have W3:=Ap (ae.o _ E3.o.2.2);go_wp2_with fail;generalize a.heap.size=OB at F0⊢;go_loopw [5] (λi wr=>∃k:Nat,k<= ↑p.cC/\i=iZ k/\Aa (∃vC vD C D,Bp a wr X OB k k #[Z s p.a7 y,Z g p.aC l,Z f1 p.cC f3,Z A p.dr B] vC vD C D)) (λi _=> ↑p.cC-(intOf i).toNat)
 case atStart=>exact⟨0,oM,rfl,_,_,_,_,F0.o⟩
 obtain⟨k,hk,rfl,E4⟩:=hrel;obtain⟨vC,vD,C,D,aU⟩:=E4.o;have L:=Ap aU;have p2:=(Bi L.o.pb).2.2.1;by_cases aD:k< ↑p.cC
 case pos=>
  have aW:(k:Int)<(p.cC:Int):=oM;have o3:=(Dn L.o.ob).2.2.2.1;have EA:Aa (Bp a (wr.alloc (.cells #[iZ (-1)] 2)) X OB k k #[Z s p.a7 y,Z g p.aC l,Z f1 p.cC f3,Z A p.dr B] vC vD C D):=L.o.bM (Ag _ _);have q3:=(Dn EA.o.ob).2.2.2.1;go_upto_region 11 with(first|(at_builtin;refine wpList_append_lies _ rfl _ _ 36 rfl a 2 aI (iZ 0) 1 8 Tryz.underlying36 hi aF aG aH rfl dC vC k (C.flatMap Ah) rfl EA.o.c wr 1 1 [iZ (-1)] rfl rfl (Dw wr _ _) (GA _) oM oX oM EA.o.gG.size _ rfl ?_;intro g5 ah w5 ao am aj aw;have PI:Aa (Bp a (w5.setCell ⟨OB,3,none⟩ (sG g5 (k+1) ah)) X OB (k+1) k #[Z s p.a7 y,Z g p.aC l,Z f1 p.cC f3,Z A p.dr B] (sG g5 (k+1) ah) vD (C++[-1]) D/\w5.cell? ⟨OB,3,none⟩=K vC/\w5.frozen? ⟨OB,3,M⟩=false):=EA.o.jl (-1) _ ao am (D3 aj);have s6:=PI.o.2.1;have aY:=PI.o.2.2;clear ao am aj aw)|go_in)
  have T:Aa _:=PI.o.1;refine An (λU=>Aa (Bp a U X OB (k+1) k #[Z s p.a7 y,Z g p.aC l,Z f1 p.cC f3,Z A p.dr B] (sG g5 (k+1) ah) vD (C++[-1]) D)) T ?_;rintro U T;have o4:=(Dn T.o.ob).2.2.2.2;have EB:Aa (Bp a (U.alloc (.cells #[iZ 0] 2)) X OB (k+1) k #[Z s p.a7 y,Z g p.aC l,Z f1 p.cC f3,Z A p.dr B] (sG g5 (k+1) ah) vD (C++[-1]) D):=T.o.bM (Ag _ _);have q4:=(Dn EB.o.ob).2.2.2.2;go_wp2_with (first|(at_builtin;refine wpList_append_lies _ rfl _ _ 36 rfl a 2 aI (iZ 0) 1 8 Tryz.underlying36 hi aF aG aH rfl dC vD k (D.flatMap Ah) rfl EB.o.d U 1 1 [iZ 0] rfl rfl (Dw U _ _) (GA _) oM oX oM EB.o.gG.size _ rfl ?_;intro g6 aA w6 ao am aj aw;have PI:Aa (Bp a (w6.setCell ⟨OB,4,M⟩ (sG g6 (k+1) aA)) X OB (k+1) (k+1) #[Z s p.a7 y,Z g p.aC l,Z f1 p.cC f3,Z A p.dr B] (sG g5 (k+1) ah) (sG g6 (k+1) aA) (C++[-1]) (D++[0])/\w6.cell? ⟨OB,4,M⟩=K vD/\w6.frozen? ⟨OB,4,M⟩=false):=EB.o.jS 0 _ ao am (D3 aj);have s6:=PI.o.2.1;have aY:=PI.o.2.2;clear ao am aj aw)|go_in)
  go_roundw;case rel=>exact⟨k+1,oM,by go_num,_,_,_,_,PI.o.1⟩
  exact oI
 case neg=>
  obtain rfl:k=p.cC.length:=oM;have bi:0<p.cC.length:=by obtain⟨z,hz⟩:∃z,zs[0]?=K z:=⟨_,an oM⟩;obtain⟨q,_,hq⟩:=HO.o.2 z (i8 hz);omega
  obtain⟨F,I,eC⟩:∃F I,vC=sG F p.cC I:=by
   rcases Bz L.o.c with⟨e,h0⟩|⟨F,I,e⟩
   . omega
   exact⟨F,I,e⟩
  obtain⟨N,Q,eD⟩:∃N Q,vD=sG N p.cC Q:=by
   rcases Bz L.o.d with⟨e,h0⟩|⟨N,Q,e⟩
   . omega
   exact⟨N,Q,e⟩
  subst eC eD;have F1:Aa (Bq a wr X OB F I N Q p.cC #[Z s p.a7 y,Z g p.aC l,Z f1 p.cC f3,Z A p.dr B]):=⟨⟨⟨C,L.o.cl,L.o.c⟩,⟨D,L.o.dl,L.o.d⟩, λe=>L.o.ne F rfl (by rw[e];rfl),L.o.gG,⟨(L.o.c.lt F rfl).2,(L.o.d.lt N rfl).2,L.o.gG.size⟩,Nat.le_refl _, λ_ _ _ _=>rfl⟩,L.o.pb,L.o.rb,L.o.ob,L.o.lo.1⟩;go_wp2_with fail;go_loopw [6,7] (λi _ wr=>∃j:Nat,j<= ↑zs/\i=iZ j/\Aa (Bq a wr X OB F I N Q p.cC #[Z s p.a7 y,Z g p.aC l,Z f1 p.cC f3,Z A p.dr B])) (λi _ _=> ↑zs-(intOf i).toNat)
  case atStart=>exact⟨0,oM,rfl,F1⟩
  obtain⟨j,hj,rfl,T⟩:=hrel;have bf:=T.o.lo;have HW3:=Ap W3.o;by_cases aD:j< ↑zs
  case neg=>obtain⟨a0,a1',a2,a3,a4⟩:=Dn T.o.rb;obtain⟨b0,b1,b2,b3,b4⟩:=Dn T.o.ob;obtain⟨fz0,fz1,fz2,fz3,fz4⟩:=Kd T.o.rb;obtain⟨C9,l9,o9⟩:=T.o.bd.c;(have aJ:Aa (∀U:Y,U.ownsRow a 2 1 (sG F p.cC I) p.cC (C9.flatMap Ah)->U.ownsRow w 2 1 (sG F p.cC I) p.cC (C9.flatMap Ah)):= λU hU=>Bb hU HW3.o.size);go_wp2_with fail;have G:Aa _:=((((T.o.rb.set 0 (iZ 0)).set 1 (iZ 0)).set 2 (iZ 0)).set 3 (sG F p.cC I)).set 4 (sG N p.cC Q);simp only[kV,lI,lM]at G;obtain⟨a0,a1',a2,a3,a4⟩:=Dn G.o;exact kY (v:=.agg #[iZ 0,iZ 0,iZ 0,sG F p.cC I,sG N p.cC Q]) (by simp[results,Tryz.results49,go_sem,a0,a1',a2,a3,a4]) rfl ⟨0,0,0,_,_,rfl,(((((HW3.o.trans (T.o.bd.gG.mono HW3.o.size)).setCell (by show ↑w<=X+1;rw[HX.o];omega) _).setCell (by show ↑w<=X+1;rw[HX.o];omega) _).setCell (by show ↑w<=X+1;rw[HX.o];omega) _).setCell (by show ↑w<=X+1;rw[HX.o];omega) _).setCell (by show ↑w<=X+1;rw[HX.o];omega) _,⟨_,_,_,_,_,_,rfl,rfl⟩, λ_=>⟨F,I,C9,rfl,l9,aJ.o _ (lL (lL (lL (lL (lL o9 (by show X+1< ↑a;omega) _) (by show X+1< ↑a;omega) _) (by show X+1< ↑a;omega) _) (by show X+1< ↑a;omega) _) (by show X+1< ↑a;omega) _)⟩⟩
  have aW:(j:Int)<(zs:Int):=oM;obtain⟨z,hz⟩:∃z,zs[j]?=K z:=⟨_,an aD⟩;obtain⟨q,eq,hq⟩:=HO.o.2 z (i8 hz);subst eq;obtain⟨ga,oa,ea,kz⟩:∃ga oa,aV=K ⟨ga,oa,M⟩/\a.cell? ⟨ga,oa+j,M⟩=K (iZ (q:Int)):=by
   rcases HO.o.1.2 with⟨e0,_⟩|⟨g1,o1,aZ,e1,hc⟩
   . omega
   simp only[jc,lO]at e1;exact⟨g1,o1,e1.1,hc j _ (Ik hz)⟩
  subst ea;have HS:Aa (∀U:Y,Bq a U X OB F I N Q p.cC #[Z s p.a7 y,Z g p.aC l,Z f1 p.cC f3,Z A p.dr B]->U.cell? X=K (Z s p.a7 y)/\U.cell? ⟨X,1,M⟩=K (Z g p.aC l)/\U.cell? ⟨X,2,M⟩=K (Z f1 p.cC f3)/\U.cell? ⟨X,3,M⟩=K (Z A p.dr B)/\U.cell? ⟨ga,oa+j,M⟩=K (iZ (q:Int))/\U.cell? ⟨OB,3,M⟩=K (sG F p.cC I)/\U.cell? ⟨OB,4,M⟩=K (sG N p.cC Q)):= λU hU=>⟨(Bi hU.pb).1,(Bi hU.pb).2.1,(Bi hU.pb).2.2.1,(Bi hU.pb).2.2.2,Ak hU.bd.gG kz,(Dn hU.ob).2.2.2.1,(Dn hU.ob).2.2.2.2⟩
  go_upto_region 15 with fail
  have W:=Ap (T.o.bM (Aj _));refine wp_region_held_drew (S:= λU=>U.cell? X=K (Z s p.a7 y)/\U.cell? ⟨X,1,M⟩=K (Z g p.aC l)/\U.cell? ⟨X,2,M⟩=K (Z f1 p.cC f3)/\U.cell? ⟨X,3,M⟩=K (Z A p.dr B)/\U.cell? ⟨ga,oa+j,M⟩=K (iZ (q:Int))/\U.cell? ⟨OB,3,M⟩=K (sG F p.cC I)/\U.cell? ⟨OB,4,M⟩=K (sG N p.cC Q)) kR (by exact HS.o _ W.o) (λhHeld=> ?_)
  generalize wr.drew=R at W hHeld⊢;refine AE 0 ?_;refine AE 1 ?_;refine AE 2 ?_;refine AE 3 ?_;refine AE 4 ?_;refine AE 5 ?_;refine AE 6 ?_;refine AE 7 ?_;refine AE 8 ?_;refine wpAnyH_ready (rs:=[9,10]) kR sP ?_;refine AllReadyH.cons rfl (λKC hKC=> ?_) (AllReadyH.cons rfl (λKC hKC=> ?_) AllReadyH.nil);focus
   go_simp;refine(OQ ⟨Z s p.a7 y,Z g p.aC l,Z f1 p.cC f3,Z A p.dr B⟩ p q (R).heap.size F I N Q a (R) rfl H.o.1 H.o.2.1 aq.o (H.o.2.2.bM HW3.o lR) hq W.o.bd).mono ?_;rintro e u6 ⟨rc,rf,ra,rfl,aM,au⟩;have EC:=Ap (W.o.of au);refine hKC.o _ _ (by exact HS.o _ EC.o) (λhHeld=> ?_);refine rdH 10 ?_;intro KC hKC;go_simp;refine hKC.o _ _ (by exact HS.o _ (EC.o.bM (Ag _ _))) (λhHeld=> ?_);refine rdH 11 ?_;intro KC hKC;go_simp;refine hKC.o _ _ (by exact HS.o _ (EC.o.bM (Ag _ _))) (λhHeld=> ?_);refine wpAnyH_done kR ?_ _;go_simp;have EZ:Aa (Bq a (u6.alloc (.cells #[iZ rc,iZ rf,iZ ra,sN,sN] 114)) X OB F I N Q p.cC #[Z s p.a7 y,Z g p.aC l,Z f1 p.cC f3,Z A p.dr B]/\Ar (u6.alloc (.cells #[iZ rc,iZ rf,iZ ra,sN,sN] 114)) u6 #[iZ rc,iZ rf,iZ ra,sN,sN] 114):=⟨EC.o.bM (Ag _ _),Ar.new _ _ _⟩
   generalize u6.heap.size=O at EZ⊢;generalize u6.alloc (.cells #[iZ rc,iZ rf,iZ ra,sN,sN] 114)=UW at EZ⊢;exact Us
  focus
   go_simp;have EA:Aa (Bq a (R.alloc (.cells #[iZ 0,iZ 0,iZ 0,sN,sN] 114)) X OB F I N Q p.cC #[Z s p.a7 y,Z g p.aC l,Z f1 p.cC f3,Z A p.dr B]):=W.o.bM (Ag _ _);refine hKC.o _ _ (by exact HS.o _ EA.o) (λhHeld=> ?_);refine rdH 9 ?_;intro KC hKC;go_simp;refine(OQ ⟨Z s p.a7 y,Z g p.aC l,Z f1 p.cC f3,Z A p.dr B⟩ p q (R.alloc (.cells #[iZ 0,iZ 0,iZ 0,sN,sN] 114)).heap.size F I N Q a (R.alloc (.cells #[iZ 0,iZ 0,iZ 0,sN,sN] 114)) rfl H.o.1 H.o.2.1 aq.o (H.o.2.2.bM HW3.o lR) hq EA.o.bd).mono ?_;rintro e u6 ⟨rc,rf,ra,rfl,aM,au⟩;have EC:=Ap (EA.o.of au);(have ET:Aa (Ar u6 R #[iZ 0,iZ 0,iZ 0,sN,sN] 114):=by obtain⟨C,c1,c2⟩:=EA.o.bd.c;obtain⟨D,d1,d2⟩:=EA.o.bd.d;have hB:=Ar.new R #[iZ 0,iZ 0,iZ 0,sN,sN] 114;have:=au.fr _ hB.lt (Gt c2 hB dC) (Gt d2 hB dC);show Ar u6 R _ _;unfold Ar at hB⊢;rw[this];exact hB);refine hKC.o _ _ (by exact HS.o _ EC.o) (λhHeld=> ?_);obtain⟨s0,s1,s2,s3,s4⟩:=Dn ET.o;obtain⟨aP,aQ,aR,aS,aT⟩:=Kd ET.o;have a8:Aa (↑R≠X/\ ↑R≠X+1/\ ↑R≠OB/\(a:Nat)<= ↑R/\ ↑R≠F/\ ↑R≠N):=⟨λe=>by have:=W.o.pb.lt;omega, λe=>by have:=W.o.rb.lt;omega, λe=>by have:=W.o.ob.lt;omega,W.o.bd.gG.size, λe=>by have:=W.o.bd.up.1;omega, λe=>by have:=W.o.bd.up.2.1;omega⟩
   generalize R.heap.size=O at ET a8 s0 s1 s2 s3 s4 aP aQ aR aS aT⊢;have EZ:Aa (Bq a (((((u6.setCell O (iZ rc)).setCell ⟨O,1,M⟩ (iZ rf)).setCell ⟨O,2,M⟩ (iZ ra)).setCell ⟨O,3,M⟩ sN).setCell ⟨O,4,M⟩ sN) X OB F I N Q p.cC #[Z s p.a7 y,Z g p.aC l,Z f1 p.cC f3,Z A p.dr B]/\Ar (((((u6.setCell O (iZ rc)).setCell ⟨O,1,M⟩ (iZ rf)).setCell ⟨O,2,M⟩ (iZ ra)).setCell ⟨O,3,M⟩ sN).setCell ⟨O,4,M⟩ sN) O #[iZ rc,iZ rf,iZ ra,sN,sN] 114):=by refine⟨((((EC.o.set a8.o _ _).set a8.o _ _).set a8.o _ _).set a8.o _ _).set a8.o _ _,?_⟩;have:=((((ET.o.set 0 (iZ rc)).set 1 (iZ rf)).set 2 (iZ ra)).set 3 sN).set 4 sN;simpa using this
   refine rdH 11 ?_;intro KC hKC;go_simp;refine hKC.o _ _ (by exact HS.o _ EZ.o.1) (λhHeld=> ?_);refine wpAnyH_done kR ?_ _;go_simp;generalize ((((u6.setCell O (iZ rc)).setCell ⟨O,1,M⟩ (iZ rf)).setCell ⟨O,2,M⟩ (iZ ra)).setCell ⟨O,3,M⟩ sN).setCell ⟨O,4,M⟩ sN=UW at EZ⊢;exact Us
end Go.Proofs.YtjnglocdoljgkaaGreat
