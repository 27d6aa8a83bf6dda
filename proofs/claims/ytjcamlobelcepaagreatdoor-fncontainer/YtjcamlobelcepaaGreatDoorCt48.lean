import Derived.Test.YtjcamlobelcepaaGreatDoorCt47
namespace Go.Proofs.YtjcamlobelcepaaGreatDoor
open Go.ChangeShapes Go.WideShapes Go.ChangeAt Go.RowKit
set_option linter.unusedVariables false
set_option maxHeartbeats 8000000
set_option maxRecDepth 100000
theorem Ld(fs:List MF):∀(n:Nat) (done:List Int),(∀z∈done,∃q:Nat,z=(q:Int)/\q<fs.length)->(∀z∈FJ fs n done,∃q:Nat,z=(q:Int)/\q<fs.length)/\(FJ fs n done).length<=done.length+n:=by
 intro n;induction n with
 |zero=>intro done h;exact⟨h,Nat.le_refl _⟩
 | succ n ih=>
   intro done h;unfold FJ;split
   . rename_i i hi
     have hlt:i<fs.length:=by
      have:=List.mem_of_find?_eq_some hi;simpa using this
     obtain⟨h1,h2⟩:=ih (done++[(i:Int)]) fun z hz=>by
      rcases ah.1 hz with e|e
      . exact h z e
      . exact⟨i,bO.1 e,hlt⟩
     refine⟨h1,?_⟩;rw[aH,aP]at h2;omega
   . exact⟨fun z hz=>(by cases hz),by simp⟩
def SE(w:World)(n:Nat)(e:Ending)(u':World):Prop:=∃(c f a:Int) (vC vD:Value),e=.returned (.agg #[iZ c,iZ f,iZ a,vC,vD])/\Below w.heap.size w u'/\(∃a1 m1 c1 a2 m2 c2,vC=.slice a1 m1 c1/\vD=.slice a2 m2 c2)/\(c=0->∃(gc cc:Nat) (C:List Int),vC=sG gc n cc/\C.length=n/\u'.ownsRow w.heap.size 2 1 (sG gc n cc) n (C.flatMap Ac))
structure Bp(w u:World)(X OB:Nat)(kc kd:Nat)(P4:Array Value)(vC vD:Value)(C D:List Int):Prop where
 pb:Ap u X P4 28
 rb:Ap u (X+1) #[iZ 0,iZ 0,iZ 0,sN,sN] 86
 ob:Ap u OB #[iZ 0,iZ 0,iZ 0,vC,vD] 86
 lo:X+1<w.heap.size/\w.heap.size<=OB
 c:u.ownsRow w.heap.size 2 1 vC kc (C.flatMap Ac)
 d:u.ownsRow w.heap.size 2 1 vD kd (D.flatMap Ac)
 ne:∀b,vC.ownBlock=some b->vD.ownBlock=some b->False
 cl:C.length=kc
 dl:D.length=kd
 bel:Below w.heap.size w u
section
variable {w u u':World} {X OB kc kd:Nat} {P4:Array Value} {vC vD:Value} {C D:List Int}
theorem Bp.keep(h:Bp w u X OB kc kd P4 vC vD C D)(hb:Below u.heap.size u u'):Bp w u' X OB kc kd P4 vC vD C D:={h with pb:=h.pb.keep hb,rb:=h.rb.keep hb,ob:=h.ob.keep hb,c:=Ah h.c hb lR,d:=Ah h.d hb lR,bel:=Ab h.bel lR hb}
theorem Bp.push_C(h:Bp w u X OB kc kd P4 vC vD C D)(z:Int)(V:Value)(ho:u'.ownsRow w.heap.size 2 1 V (kc+1) (C.flatMap Ac++[iZ z]))(hg:u.grownBy u' vC.ownBlock)(hat:V.ownBlock=vC.ownBlock\/V.ownBlock=some u.heap.size):Bp w (u'.setCell ⟨OB,3,none⟩ V) X OB (kc+1) kd P4 V vD (C++[z]) D/\u'.cell? ⟨OB,3,none⟩=some vC/\u'.frozen? ⟨OB,3,none⟩=false:=by
 have hlo:=h.lo;have ob':Ap u' OB _ _:=h.ob.grown hg h.c (by decide);have pb':Ap u' X _ _:=h.pb.grown hg h.c (by decide);have rb':Ap u' (X+1) _ _:=h.rb.grown hg h.c (by decide);have d':u'.ownsRow w.heap.size 2 1 vD kd (D.flatMap Ac):=Eg h.d hg (fun b hb q=>h.ne b q.symm hb);refine⟨⟨pb'.other (a:=⟨OB,3,none⟩) (by show X≠OB;omega) _,rb'.other (a:=⟨OB,3,none⟩) (by show X+1≠OB;omega) _,by have:=ob'.set 3 V;simpa using this,hlo,?_,aN d' (a:=⟨OB,3,none⟩) (fun q=>Bn d' ob' (by decide) _ q rfl) _,fun b h1 h2=> ?_,by rw[aH,h.cl];rfl,h.dl,((h.bel.grown hg h.bel.size (fun j hj=>(h.c.lt j hj).1)).setCell hlo.2 _)⟩,by rw[ob'.cell];rfl,ob'.frozen 3⟩
 . rw[a8]
   exact aN ho (a:=⟨OB,3,none⟩) (fun q=>Bn ho ob' (by decide) _ q rfl) V
 . rcases hat with e|e
   . exact h.ne b (e▸h1) h2
   . rw[e]at h1
     have:=Jo h.d h2;simp only[aM]at h1;omega
theorem Bp.push_D(h:Bp w u X OB kc kd P4 vC vD C D)(z:Int)(V:Value)(ho:u'.ownsRow w.heap.size 2 1 V (kd+1) (D.flatMap Ac++[iZ z]))(hg:u.grownBy u' vD.ownBlock)(hat:V.ownBlock=vD.ownBlock\/V.ownBlock=some u.heap.size):Bp w (u'.setCell ⟨OB,4,none⟩ V) X OB kc (kd+1) P4 vC V C (D++[z])/\u'.cell? ⟨OB,4,none⟩=some vD/\u'.frozen? ⟨OB,4,none⟩=false:=by
 have hlo:=h.lo;have ob':Ap u' OB _ _:=h.ob.grown hg h.d (by decide);have pb':Ap u' X _ _:=h.pb.grown hg h.d (by decide);have rb':Ap u' (X+1) _ _:=h.rb.grown hg h.d (by decide);have c':u'.ownsRow w.heap.size 2 1 vC kc (C.flatMap Ac):=Eg h.c hg (fun b hb q=>h.ne b hb q.symm);refine⟨⟨pb'.other (a:=⟨OB,4,none⟩) (by show X≠OB;omega) _,rb'.other (a:=⟨OB,4,none⟩) (by show X+1≠OB;omega) _,by have:=ob'.set 4 V;simpa using this,hlo,aN c' (a:=⟨OB,4,none⟩) (fun q=>Bn c' ob' (by decide) _ q rfl) _,?_,fun b h1 h2=> ?_,h.cl,by rw[aH,h.dl];rfl,((h.bel.grown hg h.bel.size (fun j hj=>(h.d.lt j hj).1)).setCell hlo.2 _)⟩,by rw[ob'.cell];rfl,ob'.frozen 4⟩
 . rw[a8]
   exact aN ho (a:=⟨OB,4,none⟩) (fun q=>Bn ho ob' (by decide) _ q rfl) V
 . rcases hat with e|e
   . exact h.ne b h1 (e▸h2)
   . rw[e]at h2
     have:=Jo h.c h1;simp only[aM]at h2;omega
end
structure Bq(w u:World)(X OB gc cc gd cd n:Nat)(P4:Array Value):Prop where
 bd:Bd w u u u.heap.size gc cc gd cd n
 pb:Ap u X P4 28
 rb:Ap u (X+1) #[iZ 0,iZ 0,iZ 0,sN,sN] 86
 ob:Ap u OB #[iZ 0,iZ 0,iZ 0,sG gc n cc,sG gd n cd] 86
 lo:X+1<w.heap.size
theorem Bq.keep{w u u':World}{X OB gc cc gd cd n:Nat}{P4:Array Value}(h:Bq w u X OB gc cc gd cd n P4)(hb:Below u.heap.size u u'):Bq w u' X OB gc cc gd cd n P4:=⟨(h.bd.keep hb).re,h.pb.keep hb,h.rb.keep hb,h.ob.keep hb,h.lo⟩
theorem Fy{u:World}{B k n c g b:Nat}{e t:TypeId}{xs:List Value}{cur:Array Value}(h:u.ownsRow B e k (sG g n c) n xs)(hb:Ap u b cur t)(hne:e≠t):b≠g:=fun q=>by
 obtain⟨_,c1,e1⟩:=AF h;unfold Ap at hb;rw[q,e1]at hb;injection hb with hb
 injection hb with _ hb
 exact hne hb
theorem Bq.set{w u:World}{X OB gc cc gd cd n TB:Nat}{P4:Array Value}(h:Bq w u X OB gc cc gd cd n P4)(hT:TB≠X/\TB≠X+1/\TB≠OB/\w.heap.size<=TB/\TB≠gc/\TB≠gd)(i:Nat)(V:Value):Bq w (u.setCell ⟨TB,i,none⟩ V) X OB gc cc gd cd n P4:=by
 obtain⟨h1,h2,h3,h4,h5,h6⟩:=hT;obtain⟨C,c1,c2⟩:=h.bd.c;obtain⟨D,d1,d2⟩:=h.bd.d;have c3:=BU (i:=i) (z:=V) c2 h5.symm;have d3:=BU (i:=i) (z:=V) d2 h6.symm;exact⟨⟨⟨C,c1,c3⟩,⟨D,d1,d3⟩,h.bd.ne,h.bd.bel.setCell h4 _,⟨(c3.lt gc rfl).2,(d3.lt gd rfl).2,by rw[bf];exact h.bd.bel.size⟩,Nat.le_refl _,fun _ _ _ _=>rfl⟩,h.pb.other (a:=⟨TB,i,none⟩) h1.symm _,h.rb.other (a:=⟨TB,i,none⟩) h2.symm _,h.ob.other (a:=⟨TB,i,none⟩) h3.symm _,h.lo⟩
theorem Bq.of{w u u':World}{X OB gc cc gd cd n:Nat}{P4:Array Value}(h:Bq w u X OB gc cc gd cd n P4)(hb:Bd w u u' u.heap.size gc cc gd cd n):Bq w u' X OB gc cc gd cd n P4:=by
 obtain⟨C,c1,c2⟩:=h.bd.c;obtain⟨D,d1,d2⟩:=h.bd.d
 have key:∀{b:Nat} {cur:Array Value} {t:TypeId},2≠t->Ap u b cur t->Ap u' b cur t:=fun hne hB=>by
  have:=hb.fr _ hB.lt (Fy c2 hB hne) (Fy d2 hB hne);unfold Ap at hB⊢;rw[this];exact hB
 exact⟨hb.re,key (by decide) h.pb,key (by decide) h.rb,key (by decide) h.ob,h.lo⟩
theorem KK(v:VP)(p:MP)(w:World)(hs:p.small)(hw:p.wf)(h:Ej w v p):
 Calls Tryz.prog 38 #[.agg #[v.r,v.k,v.f,v.t]] w (SE w p.funcs.length):=by
 obtain⟨i64,hi,hz0,hz1,hz2⟩:=bJ CF;obtain⟨r1,r3,k1,k3,t1,t3,f1,f3,rfl⟩:=h.sl;have hps:=hs.funcs;have H:=Af (aG hs (aG hw h));obtain⟨X,hX⟩:∃X,w.heap.size=X:=⟨_,rfl⟩
 have E0:Hid (Ap ((w.alloc (.cells #[.slice r1 p.regions.length r3,.slice k1 p.consts.length k3,.slice f1 p.funcs.length f3,.slice t1 p.certs.length t3] 28)).alloc (.cells #[iZ 0,iZ 0,iZ 0,sN,sN] 86)) X #[.slice r1 p.regions.length r3,.slice k1 p.consts.length k3,.slice f1 p.funcs.length f3,.slice t1 p.certs.length t3] 28/\Ap ((w.alloc (.cells #[.slice r1 p.regions.length r3,.slice k1 p.consts.length k3,.slice f1 p.funcs.length f3,.slice t1 p.certs.length t3] 28)).alloc (.cells #[iZ 0,iZ 0,iZ 0,sN,sN] 86)) (X+1) #[iZ 0,iZ 0,iZ 0,sN,sN] 86/\Below X w ((w.alloc (.cells #[.slice r1 p.regions.length r3,.slice k1 p.consts.length k3,.slice f1 p.funcs.length f3,.slice t1 p.certs.length t3] 28)).alloc (.cells #[iZ 0,iZ 0,iZ 0,sN,sN] 86))):=by
  have e:=FO w #[.slice r1 p.regions.length r3,.slice k1 p.consts.length k3,.slice f1 p.funcs.length f3,.slice t1 p.certs.length t3] #[iZ 0,iZ 0,iZ 0,sN,sN] 28 86;rw[hX]at e;exact e
 have HX:=Af hX;go_enter Tryz.func38,Tryz.ntmps38;go_upto_region 1 with fail
 refine An (fun U=>Hid (Ap U X #[.slice r1 p.regions.length r3,.slice k1 p.consts.length k3,.slice f1 p.funcs.length f3,.slice t1 p.certs.length t3] 28/\Ap U (X+1) #[iZ 0,iZ 0,iZ 0,sN,sN] 86/\Below X w U)) E0 ?_
 rintro U E1;obtain⟨p0,p1,p2,p3⟩:=BD E1.o.1;have HXb:Hid (∀U,Below X w U->Below w.heap.size w U):=fun U hU=>by rw[HX.o];exact hU
 go_wp2_with fail
 refine(C7 ⟨.slice r1 p.regions.length r3,.slice k1 p.consts.length k3,.slice f1 p.funcs.length f3,.slice t1 p.certs.length t3⟩ p U H.o.1 H.o.2.1 (H.o.2.2.keep (HXb.o _ E1.o.2.2) lR)).mono ?_;rintro e u1 ⟨⟨n,rfl,hn⟩,bb⟩;have E2:=Af (aG (E1.o.1.keep bb) (aG (E1.o.2.1.keep bb) (Ab E1.o.2.2 (by rw[HX.o];exact Nat.le_refl _) bb)));by_cases hn0:n=0
 case neg=>
  have hn0':(n != 0)=true:=by simpa using hn0
  obtain⟨a0,a1',a2,a3,a4⟩:=CD E2.o.2.1;obtain⟨fz0,fz1,fz2,fz3,fz4⟩:=IA E2.o.2.1;go_wp2_with fail
  have G:Hid _:=((((E2.o.2.1.set 0 (iZ 1)).set 1 (iZ 0)).set 2 (iZ 0)).set 3 sN).set 4 sN;simp only[aY,au,aw]at G;obtain⟨a0,a1',a2,a3,a4⟩:=CD G.o;exact aW (v:=.agg #[iZ 1,iZ 0,iZ 0,sN,sN]) (by simp[results,Tryz.results38,go_sem,a0,a1',a2,a3,a4]) rfl ⟨1,0,0,sN,sN,rfl,((((((HXb.o _ E2.o.2.2).setCell (by show w.heap.size<=X+1;rw[HX.o];omega) _).setCell (by show w.heap.size<=X+1;rw[HX.o];omega) _).setCell (by show w.heap.size<=X+1;rw[HX.o];omega) _).setCell (by show w.heap.size<=X+1;rw[HX.o];omega) _).setCell (by show w.heap.size<=X+1;rw[HX.o];omega) _),⟨_,_,_,_,_,_,rfl,rfl⟩,fun e=>absurd e (by decide)⟩
 subst hn0;have HFA:=Af hn;obtain⟨p0,p1,p2,p3⟩:=BD E2.o.1;go_wp2_with fail
 refine(KL ⟨.slice r1 p.regions.length r3,.slice k1 p.consts.length k3,.slice f1 p.funcs.length f3,.slice t1 p.certs.length t3⟩ p u1 H.o.1 H.o.2.1 (H.o.2.2.keep (HXb.o _ E2.o.2.2) lR)).mono ?_;rintro e u3 ⟨V,zs,rfl,hV,hO,bb⟩;obtain⟨aV,cV,eV⟩:=hV.is_slice;subst eV;have E3:=Af (aG (E2.o.1.keep bb) (aG (E2.o.2.1.keep bb) (Ab E2.o.2.2 (by rw[HX.o];exact Nat.le_refl _) bb)))
 have HO:Hid (Rd u3 1 (.slice aV zs.length cV) zs.length (zs.flatMap Ac)/\∀z∈zs,∃q:Nat,z=(q:Int)/\q<p.funcs.length):=⟨hV,by
  rcases hO with⟨_,e⟩|⟨e,_⟩
  . rw[e]
    exact(Ld p.funcs p.funcs.length [] (fun z hz=>by cases hz)).1
  . exact absurd HFA.o e⟩
 have hzl:zs.length<=1048576:=by
  rcases hO with⟨_,e⟩|⟨e,_⟩
  . rw[e]
    have:=(Ld p.funcs p.funcs.length [] (fun z hz=>by cases hz)).2;unfold Hp;simp at this;omega
  . exact absurd HFA.o e
 by_cases hze:zs.length=0
 case pos=>
  have hzI:((zs.length:Int)==0)=true:=by rw[beq_iff_eq];omega
  obtain⟨a0,a1',a2,a3,a4⟩:=CD E3.o.2.1;obtain⟨fz0,fz1,fz2,fz3,fz4⟩:=IA E3.o.2.1;go_wp2_with fail
  have G:Hid _:=((((E3.o.2.1.set 0 (iZ 2)).set 1 (iZ 0)).set 2 (iZ 0)).set 3 sN).set 4 sN;simp only[aY,au,aw]at G;obtain⟨a0,a1',a2,a3,a4⟩:=CD G.o;exact aW (v:=.agg #[iZ 2,iZ 0,iZ 0,sN,sN]) (by simp[results,Tryz.results38,go_sem,a0,a1',a2,a3,a4]) rfl ⟨2,0,0,sN,sN,rfl,((((((HXb.o _ E3.o.2.2).setCell (by show w.heap.size<=X+1;rw[HX.o];omega) _).setCell (by show w.heap.size<=X+1;rw[HX.o];omega) _).setCell (by show w.heap.size<=X+1;rw[HX.o];omega) _).setCell (by show w.heap.size<=X+1;rw[HX.o];omega) _).setCell (by show w.heap.size<=X+1;rw[HX.o];omega) _),⟨_,_,_,_,_,_,rfl,rfl⟩,fun e=>absurd e (by decide)⟩
 have hzI:((zs.length:Int)==0)=false:=by rw[du];omega
 have F0:Hid (Bp u3 (u3.alloc (.cells #[iZ 0,iZ 0,iZ 0,sN,sN] 86)) X u3.heap.size 0 0 #[.slice r1 p.regions.length r3,.slice k1 p.consts.length k3,.slice f1 p.funcs.length f3,.slice t1 p.certs.length t3] sN sN [] []):=⟨E3.o.1.keep (Aa _ _),E3.o.2.1.keep (Aa _ _),Ap.new _ _ _,⟨E3.o.2.1.lt,Nat.le_refl _⟩,bq _ _ _ _,bq _ _ _ _,fun b hb=>(by cases hb),rfl,rfl,Aa _ _⟩;have W3:=Af (HXb.o _ E3.o.2.2);go_wp2_with fail
 generalize u3.heap.size=OB at F0⊢;go_loopw [5] (fun i wr=>∃k:Nat,k<=p.funcs.length/\i=iZ k/\Hid (∃vC vD C D,Bp u3 wr X OB k k #[.slice r1 p.regions.length r3,.slice k1 p.consts.length k3,.slice f1 p.funcs.length f3,.slice t1 p.certs.length t3] vC vD C D)) (fun i _=>p.funcs.length-(intOf i).toNat)
 case atStart=>exact⟨0,by omega,rfl,_,_,_,_,F0.o⟩
 case round=>
  obtain⟨k,hk,rfl,E4⟩:=hrel;obtain⟨vC,vD,C,D,hE4⟩:=E4.o;have E5:=Af hE4;have p2:=(BD E5.o.pb).2.2.1;by_cases hlt:k<p.funcs.length
  case pos=>
   have hltI:(k:Int)<(p.funcs.length:Int):=by omega
   have o3:=(CD E5.o.ob).2.2.2.1;have EA:Hid (Bp u3 (wr.alloc (.cells #[iZ (-1)] 2)) X OB k k #[.slice r1 p.regions.length r3,.slice k1 p.consts.length k3,.slice f1 p.funcs.length f3,.slice t1 p.certs.length t3] vC vD C D):=E5.o.keep (Aa _ _);have q3:=(CD EA.o.ob).2.2.2.1;go_upto_region 11 with(first|(at_builtin;refine wpList_append_lies _ rfl _ _ 47 rfl u3.heap.size 2 i64 (iZ 0) 1 8 Tryz.underlying47 hi hz0 hz1 hz2 rfl (by decide) vC k (C.flatMap Ac) rfl EA.o.c ⟨wr.heap.size,0,none⟩ 1 1 [iZ (-1)] rfl rfl (De wr _ _) (FI _) (by omega) (by unfold maxLen;omega) (by omega) EA.o.bel.size _ rfl ?_;intro g5 cap5 w5 hown5 hgrow5 hat5 hlt5;have PI:Hid (Bp u3 (w5.setCell ⟨OB,3,none⟩ (sG g5 (k+1) cap5)) X OB (k+1) k #[.slice r1 p.regions.length r3,.slice k1 p.consts.length k3,.slice f1 p.funcs.length f3,.slice t1 p.certs.length t3] (sG g5 (k+1) cap5) vD (C++[-1]) D/\w5.cell? ⟨OB,3,none⟩=some vC/\w5.frozen? ⟨OB,3,none⟩=false):=EA.o.push_C (-1) _ hown5 hgrow5 (DO hat5);have s6:=PI.o.2.1;have s6':=PI.o.2.2;clear hown5 hgrow5 hat5 hlt5)|go_in)
   have E6:Hid _:=PI.o.1;refine An (fun U=>Hid (Bp u3 U X OB (k+1) k #[.slice r1 p.regions.length r3,.slice k1 p.consts.length k3,.slice f1 p.funcs.length f3,.slice t1 p.certs.length t3] (sG g5 (k+1) cap5) vD (C++[-1]) D)) E6 ?_;rintro U E6;have o4:=(CD E6.o.ob).2.2.2.2;have EB:Hid (Bp u3 (U.alloc (.cells #[iZ 0] 2)) X OB (k+1) k #[.slice r1 p.regions.length r3,.slice k1 p.consts.length k3,.slice f1 p.funcs.length f3,.slice t1 p.certs.length t3] (sG g5 (k+1) cap5) vD (C++[-1]) D):=E6.o.keep (Aa _ _);have q4:=(CD EB.o.ob).2.2.2.2
   go_wp2_with (first|(at_builtin;refine wpList_append_lies _ rfl _ _ 47 rfl u3.heap.size 2 i64 (iZ 0) 1 8 Tryz.underlying47 hi hz0 hz1 hz2 rfl (by decide) vD k (D.flatMap Ac) rfl EB.o.d ⟨U.heap.size,0,none⟩ 1 1 [iZ 0] rfl rfl (De U _ _) (FI _) (by omega) (by unfold maxLen;omega) (by omega) EB.o.bel.size _ rfl ?_;intro g6 cap6 w6 hown5 hgrow5 hat5 hlt5;have PI:Hid (Bp u3 (w6.setCell ⟨OB,4,none⟩ (sG g6 (k+1) cap6)) X OB (k+1) (k+1) #[.slice r1 p.regions.length r3,.slice k1 p.consts.length k3,.slice f1 p.funcs.length f3,.slice t1 p.certs.length t3] (sG g5 (k+1) cap5) (sG g6 (k+1) cap6) (C++[-1]) (D++[0])/\w6.cell? ⟨OB,4,none⟩=some vD/\w6.frozen? ⟨OB,4,none⟩=false):=EB.o.push_D 0 _ hown5 hgrow5 (DO hat5);have s6:=PI.o.2.1;have s6':=PI.o.2.2;clear hown5 hgrow5 hat5 hlt5)|go_in)
   go_roundw
   case rel=>exact⟨k+1,by omega,by go_num,_,_,_,_,PI.o.1⟩
   case measure=>simp[intOf];omega
  case neg=>
   obtain rfl:k=p.funcs.length:=by omega
   have hpos:0<p.funcs.length:=by
    obtain⟨z,hz⟩:∃z,zs[0]?=some z:=⟨_,aA (by omega)⟩;obtain⟨q,_,hq⟩:=HO.o.2 z (aF hz);omega
   obtain⟨gc,cc,eC⟩:∃gc cc,vC=sG gc p.funcs.length cc:=by
    rcases Ci E5.o.c with⟨e,h0⟩|⟨gc,cc,e⟩
    . omega
    . exact⟨gc,cc,e⟩
   obtain⟨gd,cd,eD⟩:∃gd cd,vD=sG gd p.funcs.length cd:=by
    rcases Ci E5.o.d with⟨e,h0⟩|⟨gd,cd,e⟩
    . omega
    . exact⟨gd,cd,e⟩
   subst eC eD;have F1:Hid (Bq u3 wr X OB gc cc gd cd p.funcs.length #[.slice r1 p.regions.length r3,.slice k1 p.consts.length k3,.slice f1 p.funcs.length f3,.slice t1 p.certs.length t3]):=⟨⟨⟨C,E5.o.cl,E5.o.c⟩,⟨D,E5.o.dl,E5.o.d⟩,fun e=>E5.o.ne gc rfl (by rw[e];rfl),E5.o.bel,⟨(E5.o.c.lt gc rfl).2,(E5.o.d.lt gd rfl).2,E5.o.bel.size⟩,Nat.le_refl _,fun _ _ _ _=>rfl⟩,E5.o.pb,E5.o.rb,E5.o.ob,E5.o.lo.1⟩;go_wp2_with fail;go_loopw [6,7] (fun i _ wr=>∃j:Nat,j<=zs.length/\i=iZ j/\Hid (Bq u3 wr X OB gc cc gd cd p.funcs.length #[.slice r1 p.regions.length r3,.slice k1 p.consts.length k3,.slice f1 p.funcs.length f3,.slice t1 p.certs.length t3])) (fun i _ _=>zs.length-(intOf i).toNat)
   case atStart=>exact⟨0,by omega,rfl,F1⟩
   case round=>
    obtain⟨j,hj,rfl,E6⟩:=hrel;have hX1:=E6.o.lo;have HW3:=Af W3.o;by_cases hlt:j<zs.length
    case neg=>
     obtain⟨a0,a1',a2,a3,a4⟩:=CD E6.o.rb;obtain⟨b0,b1,b2,b3,b4⟩:=CD E6.o.ob;obtain⟨fz0,fz1,fz2,fz3,fz4⟩:=IA E6.o.rb;obtain⟨C9,l9,o9⟩:=E6.o.bd.c;have HO9:Hid (∀U:World,U.ownsRow u3.heap.size 2 1 (sG gc p.funcs.length cc) p.funcs.length (C9.flatMap Ac)->U.ownsRow w.heap.size 2 1 (sG gc p.funcs.length cc) p.funcs.length (C9.flatMap Ac)):=fun U hU=>Bv hU HW3.o.size
     go_wp2_with fail
     have G:Hid _:=((((E6.o.rb.set 0 (iZ 0)).set 1 (iZ 0)).set 2 (iZ 0)).set 3 (sG gc p.funcs.length cc)).set 4 (sG gd p.funcs.length cd);simp only[aY,au,aw]at G;obtain⟨a0,a1',a2,a3,a4⟩:=CD G.o;exact aW (v:=.agg #[iZ 0,iZ 0,iZ 0,sG gc p.funcs.length cc,sG gd p.funcs.length cd]) (by simp[results,Tryz.results38,go_sem,a0,a1',a2,a3,a4]) rfl ⟨0,0,0,_,_,rfl,(((((HW3.o.trans (E6.o.bd.bel.mono HW3.o.size)).setCell (by show w.heap.size<=X+1;rw[HX.o];omega) _).setCell (by show w.heap.size<=X+1;rw[HX.o];omega) _).setCell (by show w.heap.size<=X+1;rw[HX.o];omega) _).setCell (by show w.heap.size<=X+1;rw[HX.o];omega) _).setCell (by show w.heap.size<=X+1;rw[HX.o];omega) _,⟨_,_,_,_,_,_,rfl,rfl⟩,fun _=>⟨gc,cc,C9,rfl,l9,HO9.o _ (bT (bT (bT (bT (bT o9 (by show X+1<u3.heap.size;omega) _) (by show X+1<u3.heap.size;omega) _) (by show X+1<u3.heap.size;omega) _) (by show X+1<u3.heap.size;omega) _) (by show X+1<u3.heap.size;omega) _)⟩⟩
    have hltI:(j:Int)<(zs.length:Int):=by omega
    obtain⟨z,hz⟩:∃z,zs[j]?=some z:=⟨_,aA hlt⟩;obtain⟨q,eq,hq⟩:=HO.o.2 z (aF hz);subst eq
    obtain⟨ga,oa,ea,kz⟩:∃ga oa,aV=some ⟨ga,oa,none⟩/\u3.cell? ⟨ga,oa+j,none⟩=some (iZ (q:Int)):=by
     rcases HO.o.1.2 with⟨e0,_⟩|⟨g1,o1,c1',e1,hc⟩
     . omega
     . simp only[aI,ao]at e1
       exact⟨g1,o1,e1.1,hc j _ (Hc hz)⟩
    subst ea;have HS:Hid (∀U:World,Bq u3 U X OB gc cc gd cd p.funcs.length #[.slice r1 p.regions.length r3,.slice k1 p.consts.length k3,.slice f1 p.funcs.length f3,.slice t1 p.certs.length t3]->U.cell? ⟨X,0,none⟩=some (.slice r1 p.regions.length r3)/\U.cell? ⟨X,1,none⟩=some (.slice k1 p.consts.length k3)/\U.cell? ⟨X,2,none⟩=some (.slice f1 p.funcs.length f3)/\U.cell? ⟨X,3,none⟩=some (.slice t1 p.certs.length t3)/\U.cell? ⟨ga,oa+j,none⟩=some (iZ (q:Int))/\U.cell? ⟨OB,3,none⟩=some (sG gc p.funcs.length cc)/\U.cell? ⟨OB,4,none⟩=some (sG gd p.funcs.length cd)):=fun U hU=>⟨(BD hU.pb).1,(BD hU.pb).2.1,(BD hU.pb).2.2.1,(BD hU.pb).2.2.2,Ad hU.bd.bel kz,(CD hU.ob).2.2.2.1,(CD hU.ob).2.2.2.2⟩
    go_upto_region 15 with fail
    have ED:=Af (E6.o.keep (Ae _));refine wp_region_held_drew (S:=fun U=>U.cell? ⟨X,0,none⟩=some (.slice r1 p.regions.length r3)/\U.cell? ⟨X,1,none⟩=some (.slice k1 p.consts.length k3)/\U.cell? ⟨X,2,none⟩=some (.slice f1 p.funcs.length f3)/\U.cell? ⟨X,3,none⟩=some (.slice t1 p.certs.length t3)/\U.cell? ⟨ga,oa+j,none⟩=some (iZ (q:Int))/\U.cell? ⟨OB,3,none⟩=some (sG gc p.funcs.length cc)/\U.cell? ⟨OB,4,none⟩=some (sG gd p.funcs.length cd)) (by kernel_rfl) (by exact HS.o _ ED.o) (fun hHeld=> ?_)
    generalize wr.drew=UD at ED hHeld⊢;refine Ar 0 ?_;refine Ar 1 ?_;refine Ar 2 ?_;refine Ar 3 ?_;refine Ar 4 ?_;refine Ar 5 ?_;refine Ar 6 ?_;refine Ar 7 ?_;refine Ar 8 ?_;refine wpAnyH_ready (rs:=[9,10]) (by kernel_rfl) (by simp) ?_;refine AllReadyH.cons rfl (fun KC hKC=> ?_) (AllReadyH.cons rfl (fun KC hKC=> ?_) AllReadyH.nil)
    focus
     go_simp;refine(Nc ⟨.slice r1 p.regions.length r3,.slice k1 p.consts.length k3,.slice f1 p.funcs.length f3,.slice t1 p.certs.length t3⟩ p q (UD).heap.size gc cc gd cd u3 (UD) rfl H.o.1 H.o.2.1 HFA.o (H.o.2.2.keep HW3.o lR) hq ED.o.bd).mono ?_;rintro e u6 ⟨rc,rf,ra,rfl,bb6,hbd⟩;have EC:=Af (ED.o.of hbd);refine hKC.o _ _ (by exact HS.o _ EC.o) (fun hHeld=> ?_);refine FL 10 ?_;intro KC hKC;go_simp;refine hKC.o _ _ (by exact HS.o _ (EC.o.keep (Aa _ _))) (fun hHeld=> ?_);refine FL 11 ?_;intro KC hKC;go_simp;refine hKC.o _ _ (by exact HS.o _ (EC.o.keep (Aa _ _))) (fun hHeld=> ?_);refine wpAnyH_done (by kernel_rfl) ?_ _;go_simp;have EZ:Hid (Bq u3 (u6.alloc (.cells #[iZ rc,iZ rf,iZ ra,sN,sN] 86)) X OB gc cc gd cd p.funcs.length #[.slice r1 p.regions.length r3,.slice k1 p.consts.length k3,.slice f1 p.funcs.length f3,.slice t1 p.certs.length t3]/\Ap (u6.alloc (.cells #[iZ rc,iZ rf,iZ ra,sN,sN] 86)) u6.heap.size #[iZ rc,iZ rf,iZ ra,sN,sN] 86):=⟨EC.o.keep (Aa _ _),Ap.new _ _ _⟩
     generalize u6.heap.size=TB at EZ⊢;generalize u6.alloc (.cells #[iZ rc,iZ rf,iZ ra,sN,sN] 86)=UW at EZ⊢;by_cases hc0:rc=0
     case pos=>
      subst hc0;have t0:=(CD EZ.o.2).1;go_wp2_with fail
      go_roundw
      case rel=>exact⟨j+1,by omega,by go_num,EZ.o.1⟩
      case measure=>simp[intOf];omega
     case neg=>
      have hc0':(rc != 0)=true:=by simpa using hc0
      obtain⟨t0,t1',t2,t3',t4⟩:=CD EZ.o.2;have EX:=Af (HW3.o.trans (EZ.o.1.bd.bel.mono HW3.o.size));obtain⟨a0,a1',a2,a3,a4⟩:=CD EZ.o.1.rb;obtain⟨fz0,fz1,fz2,fz3,fz4⟩:=IA EZ.o.1.rb;go_wp2_with fail
      have G:Hid _:=((((EZ.o.1.rb.set 0 (iZ rc)).set 1 (iZ rf)).set 2 (iZ ra)).set 3 sN).set 4 sN;simp only[aY,au,aw]at G;obtain⟨a0,a1',a2,a3,a4⟩:=CD G.o;exact aW (v:=.agg #[iZ rc,iZ rf,iZ ra,sN,sN]) (by simp[results,Tryz.results38,go_sem,a0,a1',a2,a3,a4]) rfl ⟨rc,rf,ra,sN,sN,rfl,((((((EX.o).setCell (by show w.heap.size<=X+1;rw[HX.o];omega) _).setCell (by show w.heap.size<=X+1;rw[HX.o];omega) _).setCell (by show w.heap.size<=X+1;rw[HX.o];omega) _).setCell (by show w.heap.size<=X+1;rw[HX.o];omega) _).setCell (by show w.heap.size<=X+1;rw[HX.o];omega) _),⟨_,_,_,_,_,_,rfl,rfl⟩,fun e=>absurd e hc0⟩
    focus
     go_simp;have EA:Hid (Bq u3 (UD.alloc (.cells #[iZ 0,iZ 0,iZ 0,sN,sN] 86)) X OB gc cc gd cd p.funcs.length #[.slice r1 p.regions.length r3,.slice k1 p.consts.length k3,.slice f1 p.funcs.length f3,.slice t1 p.certs.length t3]):=ED.o.keep (Aa _ _);refine hKC.o _ _ (by exact HS.o _ EA.o) (fun hHeld=> ?_);refine FL 9 ?_;intro KC hKC;go_simp;refine(Nc ⟨.slice r1 p.regions.length r3,.slice k1 p.consts.length k3,.slice f1 p.funcs.length f3,.slice t1 p.certs.length t3⟩ p q (UD.alloc (.cells #[iZ 0,iZ 0,iZ 0,sN,sN] 86)).heap.size gc cc gd cd u3 (UD.alloc (.cells #[iZ 0,iZ 0,iZ 0,sN,sN] 86)) rfl H.o.1 H.o.2.1 HFA.o (H.o.2.2.keep HW3.o lR) hq EA.o.bd).mono ?_;rintro e u6 ⟨rc,rf,ra,rfl,bb6,hbd⟩;have EC:=Af (EA.o.of hbd)
     have ET:Hid (Ap u6 UD.heap.size #[iZ 0,iZ 0,iZ 0,sN,sN] 86):=by
      obtain⟨C,c1,c2⟩:=EA.o.bd.c;obtain⟨D,d1,d2⟩:=EA.o.bd.d;have hB:=Ap.new UD #[iZ 0,iZ 0,iZ 0,sN,sN] 86;have:=hbd.fr _ hB.lt (Fy c2 hB (by decide)) (Fy d2 hB (by decide));show Ap u6 UD.heap.size _ _;unfold Ap at hB⊢;rw[this];exact hB
     refine hKC.o _ _ (by exact HS.o _ EC.o) (fun hHeld=> ?_);obtain⟨s0,s1,s2,s3,s4⟩:=CD ET.o;obtain⟨gz0,gz1,gz2,gz3,gz4⟩:=IA ET.o;have hTB:Hid (UD.heap.size≠X/\UD.heap.size≠X+1/\UD.heap.size≠OB/\u3.heap.size<=UD.heap.size/\UD.heap.size≠gc/\UD.heap.size≠gd):=⟨fun e=>by have:=ED.o.pb.lt;omega,fun e=>by have:=ED.o.rb.lt;omega,fun e=>by have:=ED.o.ob.lt;omega,ED.o.bd.bel.size,fun e=>by have:=ED.o.bd.up.1;omega,fun e=>by have:=ED.o.bd.up.2.1;omega⟩
     generalize UD.heap.size=TB at ET hTB s0 s1 s2 s3 s4 gz0 gz1 gz2 gz3 gz4⊢
     have EZ:Hid (Bq u3 (((((u6.setCell ⟨TB,0,none⟩ (iZ rc)).setCell ⟨TB,1,none⟩ (iZ rf)).setCell ⟨TB,2,none⟩ (iZ ra)).setCell ⟨TB,3,none⟩ sN).setCell ⟨TB,4,none⟩ sN) X OB gc cc gd cd p.funcs.length #[.slice r1 p.regions.length r3,.slice k1 p.consts.length k3,.slice f1 p.funcs.length f3,.slice t1 p.certs.length t3]/\Ap (((((u6.setCell ⟨TB,0,none⟩ (iZ rc)).setCell ⟨TB,1,none⟩ (iZ rf)).setCell ⟨TB,2,none⟩ (iZ ra)).setCell ⟨TB,3,none⟩ sN).setCell ⟨TB,4,none⟩ sN) TB #[iZ rc,iZ rf,iZ ra,sN,sN] 86):=by
      refine⟨((((EC.o.set hTB.o _ _).set hTB.o _ _).set hTB.o _ _).set hTB.o _ _).set hTB.o _ _,?_⟩;have:=((((ET.o.set 0 (iZ rc)).set 1 (iZ rf)).set 2 (iZ ra)).set 3 sN).set 4 sN;simpa using this
     refine FL 11 ?_;intro KC hKC;go_simp;refine hKC.o _ _ (by exact HS.o _ EZ.o.1) (fun hHeld=> ?_);refine wpAnyH_done (by kernel_rfl) ?_ _;go_simp;generalize ((((u6.setCell ⟨TB,0,none⟩ (iZ rc)).setCell ⟨TB,1,none⟩ (iZ rf)).setCell ⟨TB,2,none⟩ (iZ ra)).setCell ⟨TB,3,none⟩ sN).setCell ⟨TB,4,none⟩ sN=UW at EZ⊢;by_cases hc0:rc=0
     case pos=>
      subst hc0;have t0:=(CD EZ.o.2).1;go_wp2_with fail
      go_roundw
      case rel=>exact⟨j+1,by omega,by go_num,EZ.o.1⟩
      case measure=>simp[intOf];omega
     case neg=>
      have hc0':(rc != 0)=true:=by simpa using hc0
      obtain⟨t0,t1',t2,t3',t4⟩:=CD EZ.o.2;have EX:=Af (HW3.o.trans (EZ.o.1.bd.bel.mono HW3.o.size));obtain⟨a0,a1',a2,a3,a4⟩:=CD EZ.o.1.rb;obtain⟨fz0,fz1,fz2,fz3,fz4⟩:=IA EZ.o.1.rb;go_wp2_with fail
      have G:Hid _:=((((EZ.o.1.rb.set 0 (iZ rc)).set 1 (iZ rf)).set 2 (iZ ra)).set 3 sN).set 4 sN;simp only[aY,au,aw]at G;obtain⟨a0,a1',a2,a3,a4⟩:=CD G.o;exact aW (v:=.agg #[iZ rc,iZ rf,iZ ra,sN,sN]) (by simp[results,Tryz.results38,go_sem,a0,a1',a2,a3,a4]) rfl ⟨rc,rf,ra,sN,sN,rfl,((((((EX.o).setCell (by show w.heap.size<=X+1;rw[HX.o];omega) _).setCell (by show w.heap.size<=X+1;rw[HX.o];omega) _).setCell (by show w.heap.size<=X+1;rw[HX.o];omega) _).setCell (by show w.heap.size<=X+1;rw[HX.o];omega) _).setCell (by show w.heap.size<=X+1;rw[HX.o];omega) _),⟨_,_,_,_,_,_,rfl,rfl⟩,fun e=>absurd e hc0⟩
end Go.Proofs.YtjcamlobelcepaaGreatDoor
