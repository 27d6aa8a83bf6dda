import Derived.Test.YtdipfjmlfbdkdaaGreatFc15
import Derived.Deep.LoopGhost
namespace Go.Proofs.YtdipfjmlfbdkdaaGreat
open Go.ChangeShapes Go.WideShapes Go.ChangeAt Go.RowKit
set_option linter.unusedVariables false
set_option maxHeartbeats 8000000
set_option maxRecDepth 100000
structure Eu(w:World)(base:Nat)(V:Value)(F:List (MB×Value)):Prop where
 row:w.ownsRow base 58 3 V F.length (F.flatMap A9)
 fam:Cc w base (Cw F)
theorem Nb{e:Nat}(h:e<=1048576):IntKind.i64.wrap (e:Int)=(e:Int):=by
 simp[IntKind.wrap,IntKind.bits,IntKind.signed];omega
theorem Mj{u:World}{X B k g n c:Nat}{e t:TypeId}{cur:Array Value}{xs:List Value}(h:Ak u X cur t)(ho:u.ownsRow B e k (.slice (some ⟨g,0,none⟩) n c) n xs)(hne:t≠e):¬X=g:=fun eq=>by
 subst eq;obtain⟨_,cur',h2⟩:=Am ho;unfold Ak at h;rw[h]at h2;simp only[aR,dD]at h2;exact hne h2.2.1
theorem Lp(n:Nat):(madeCells (Value.agg #[.int .i64 0,.int .i64 0,.slice none 0 0]).cells (n*3)).toList=(List.replicate n z3).flatten:=by
 rw[Bu Hw z3 [] n (.agg #[.int .i64 0,.int .i64 0,.slice none 0 0]) 3 rfl rfl (by omega)];simp[A7]
theorem In (s:Value)(xs:List MI)(w:World)(hn:xs.length<=1048576)(h:Rd w 4 s xs.length (xs.flatMap MI.cells)):
 Calls Tryz.prog 83 #[s] w fun e w'=>∃V F,e=.returned V/\Eu w' w.heap.size V F/\((¬Aw xs/\F=[])\/Aw xs/\F.map Prod.fst=Ao xs)/\Below w.heap.size w w':=by
 obtain⟨i0,hi,hz0,hz1,hz2⟩:=bQ Qs;have H:Hid (Rd w 4 s xs.length (xs.flatMap MI.cells)):=h;obtain⟨a1,c1,rfl⟩:=h.is_slice;clear h;have HNIL:Hid (∀u:World,Eu u w.heap.size (.slice none 0 0) []):=fun u=>⟨bL _ _ _ _,⟨fun r hr=>(by cases hr),List.Pairwise.nil⟩⟩
 by_cases q0:xs.length=0
 . have HN:Hid (¬Aw xs):=fun e=>by have:=e.1;omega
   rw[q0];go_enter Tryz.func83,Tryz.ntmps83;go_wp2
   go_ret
   exact⟨_,[],rfl,HNIL.o _,.inl ⟨HN.o,rfl⟩,aX _ _⟩
 by_cases q1:1024<xs.length
 . have HN:Hid (¬Aw xs):=fun e=>by have:=e.2.1;omega
   have q0':((xs.length:Int)==0)=false:=eM.2 (by omega);have q1':(1024:Int)<(xs.length:Int):=by omega
   go_enter Tryz.func83,Tryz.ntmps83;go_wp2
   go_ret
   exact⟨_,[],rfl,HNIL.o _,.inl ⟨HN.o,rfl⟩,aX _ _⟩
 have q0':((xs.length:Int)==0)=false:=eM.2 (by omega);have q0n:¬(xs.length:Int)=0:=by omega
 have q1':¬(1024:Int)<(xs.length:Int):=by omega
 go_enter Tryz.func83,Tryz.ntmps83;go_wp2_with fail
 refine(IG (.slice a1 xs.length c1) xs _ hn H.o).mono ?_;rintro e u1 ⟨⟨b1,rfl,hb1⟩,bl1⟩;cases b1
 . have HN:Hid (¬Aw xs):=fun e=>absurd (hb1.2 e.2.2) cU
   have HB:Hid (Below w.heap.size w u1):=bl1;clear hb1 bl1;go_wp2
   go_ret
   exact⟨_,[],rfl,HNIL.o _,.inl ⟨HN.o,rfl⟩,HB.o⟩
 have HG:Hid (Aw xs):=⟨by omega,by omega,hb1.1 rfl⟩;have HB:Hid (Below w.heap.size w u1):=bl1;clear hb1 bl1;go_wp2_with fail
 refine(Jn (.slice a1 xs.length c1) xs _ HG.o (H.o.keep HB.o lR)).mono ?_;rintro e u2 ⟨gl,cl,rfl,own2,b2⟩;have hm1:(BQ xs xs.length).length<=1024:=aY (cJ _ _) (by simp;omega);have hm0:0<(BQ xs xs.length).length:=dQ.2 (GE xs _ (by omega));have HL2:Hid (u2.ownsRow w.heap.size 2 1 (.slice (some ⟨gl,0,none⟩) (BQ xs xs.length).length cl) (BQ xs xs.length).length (((BQ xs xs.length).map Int.ofNat).flatMap Ac)/\Below w.heap.size w u2):=⟨AF own2 HB.o.size,Ab HB.o lR b2⟩
 clear own2 b2;generalize hM:(BQ xs xs.length).length=m at hm1 hm0 HL2⊢;have HM:Hid ((BQ xs xs.length).length=m):=hM;clear hM;go_wp2_with (at_make;refine bZ _ rfl _ _ 49 rfl w.heap.size 58 i0 (.agg #[.int .i64 0,.int .i64 0,.slice none 0 0]) 3 Tryz.underlying49 hi hz0 hz1 .i64 .i64 _ _ m rfl rfl rfl rfl (by rw[hz2];omega) (by unfold maxLen;omega) HL2.o.2.size ?_;intro w3 hown hgrow;rw[Lp]at hown)
 have HI0:Hid (IW w w3 xs gl cl u2.heap.size m []):=by
  have hb3:Below u2.heap.size u2 w3:=(aX _ _).grown hgrow lR (fun k hk=>by cases hk);refine⟨?_,⟨?_,?_⟩,?_,Ab HL2.o.2 lR hb3⟩
  . rw[HM.o]
    simpa using hown
  . intro r hr
    simp only[Cw,List.map_nil,aa,ao,cH]at hr;subst hr;rw[HM.o];simp only[a7,HM.o];exact Ag HL2.o.1 hb3 lR
  . simp[Cw]
  . rw[df (by rw[EU,HM.o];exact Nat.le_refl _)]
    rfl
 clear hown hgrow HL2;generalize u2.heap.size=bl at HI0⊢;go_wp2
 go_loopw [5,6] (fun v i wr=>∃(j q:Nat) (D:List (MB×Value)),j<=m/\v=.int .i64 q/\i=.int .i64 ((j:Int)-1)/\Hid ((BQ xs xs.length++[xs.length])[j]?=some q/\IW w wr xs gl cl bl j D)) (fun _ i _=>(intOf i+1).toNat)
 case atStart=>exact⟨m,xs.length,[],Nat.le_refl _,rfl,rfl,⟨by rw[aW (by rw[HM.o];exact Nat.le_refl _),HM.o];simp,HI0.o⟩⟩
 case round=>
  clear HI0;obtain⟨j,q,D,hj,rfl,rfl,HI⟩:=hrel;cases j with
  | succ b=>
    rw[show(((b+1:Nat):Int)-1)=(b:Int)by omega];obtain⟨a,ha⟩:∃a,(BQ xs xs.length)[b]?=some a:=⟨_,aA (by rw[HM.o];omega)⟩;have hbm:=KY _ _ _ _ _ ha HI.o.1;obtain⟨e,he,hen⟩:=Gc xs xs.length (by omega) _ (by rw[BP];exact aE hbm);simp only[]at he;obtain⟨x,hx⟩:∃x,xs[e]?=some x:=⟨_,aA hen⟩;have HX:Hid ((BQ xs xs.length)[b]?=some a/\(q:Int)-1=(e:Int)/\xs[e]?=some x):=⟨ha,he,hx⟩
    have hqe:(q:Int)=(e:Int)+1:=by omega
    have heq1:(e:Int)+1-1=(e:Int):=by omega
    have hlead:=HI.o.2.lead;rw[HM.o]at hlead;have l0:=hlead.cellAt b (by omega);rw[Cj,bB,bB,ha]at l0;simp only[dS]at l0;have l0':wr.cell? ⟨gl,b,none⟩=some (.int .i64 (a:Int)):=l0;have l1:=Ad (Ae wr) l0';have hrow:=HI.o.2.row;rw[HM.o,L3]at hrow;have HR:Hid (wr.ownsRow w.heap.size 58 3 (.slice (some ⟨bl,0,none⟩) m m) m ((List.replicate b z3).flatten++(z3++D.flatMap A9))):=hrow;have R1:Hid (Rd wr 4 (.slice a1 xs.length c1) xs.length (xs.flatMap MI.cells)):=H.o.keep HI.o.2.bel lR;have PF:Hid (∀u:World,Rd u 4 (.slice a1 xs.length c1) xs.length (xs.flatMap MI.cells)->Calls Tryz.prog 114 #[.slice a1 xs.length c1,.int .i64 (e:Int)] u fun e1 w'=>∃r,e1=.returned r/\w'.ownsRow u.heap.size 2 1 r (AK xs x e).length ((AK xs x e).flatMap Ac)/\Below u.heap.size u w'):=fun u hu=>IF _ xs x e u HG.o.2.1 HG.o.2.2 HX.o.2.2 hu
    clear ha he hx hbm hlead hrow l0;have hbL:(b:Int)<(m:Int):=by omega
    have hwr:IntKind.i64.wrap (e:Int)=(e:Int):=Nb (by omega);rw[hqe];go_wp2_with fail
    go_region_law (first
     |(go_simp;go_at_call 114;refine(PF.o _ (R1.o.keep (Ae _) lR)).mono ?_;rintro e1 u5 ⟨r,rfl,own5,b5⟩;obtain⟨ar,cr,rfl⟩:=(Rd.of_own own5).is_slice;have B5:Hid (Below wr.heap.size wr u5):=A4 b5 lR;have O5:Hid (u5.ownsRow wr.heap.size 2 1 (.slice ar (AK xs x e).length cr) (AK xs x e).length ((AK xs x e).flatMap Ac)):=own5;have l2:=Ad B5.o l0';have hr5:=Ag HR.o B5.o lR;have d0:=hr5.cellAt (b*3) (by omega);have d1:=hr5.cellAt (b*3+1) (by omega);have d2:=hr5.cellAt (b*3+2) (by omega);have f0:=hr5.frozenAt (b*3);have f1:=hr5.frozenAt (b*3+1);have f2:=hr5.frozenAt (b*3+2);rw[aW (by rw[Nc];omega),Nc]at d0 d1 d2;rw[cg]at d0;rw[bg]at d1 d2;simp only[z3,cA,aM,aj]at d0 d1 d2;clear own5 b5 hr5))
    all_goals
     refine Av (fun u=>Hid (IW w u xs gl cl bl b ((⟨(a:Int),(e:Int),AK xs x e⟩,.slice ar (AK xs x e).length cr)::D))) (HI.o.2.next B5.o O5.o HX.o.1 HI.o.1 HX.o.2.1 HX.o.2.2) ?_;intro U7 HN;have l7:=HN.o.lead.cellAt b (by rw[HM.o];omega);rw[Cj,bB,bB,HX.o.1]at l7;simp only[dS]at l7;have l7':U7.cell? ⟨gl,b,none⟩=some (.int .i64 (a:Int)):=l7;clear l7 l0' l1 l2 d0 d1 d2 f0 f1 f2
     have HQ:Hid ((BQ xs xs.length++[xs.length])[b]?=some a):=by
      show _=_;rw[bG (by rw[HM.o];omega)];exact HX.o.1
     go_wp2
     go_roundw
     case rel=>exact⟨b,a,_,by omega,rfl,by go_num,⟨HQ.o,HN.o⟩⟩
     case measure=>simp[intOf]
  | zero=>
    rw[show(((0:Nat):Int)-1)=-1 from rfl]
    have HJ0:Hid (JW w wr xs gl cl bl D/\D.map Prod.fst=GG xs/\D.length=m):=by
     refine⟨⟨by simpa using HI.o.2.row,HI.o.2.fam,HI.o.2.bel⟩,by simpa using HI.o.2.done,?_⟩;have:=congrArg List.length HI.o.2.done;rw[a7,List.drop_zero,EU,HM.o]at this;exact this
    have HD:Hid (D.map Prod.fst=GG xs/\D.length=m):=HJ0.o.2
    have HP:Hid (∀x∈D,∀p∈x.1.next,0<=p/\p.toNat∈BQ xs xs.length):=fun x hx p hp=>LA xs HG.o x.1 (by rw[<-HD.o.1];exact de hx) p hp
    have HPL:Hid (∀x∈D,x.1.next.length<=2):=by
     intro x hx;have hm:=de (f:=Prod.fst) hx;rw[HD.o.1]at hm;unfold GG at hm;obtain⟨m0,_,e0⟩:=au.1 hm;rw[<-e0];simp only[Og,AK];split<;>split<;>simp
    clear HI hj;go_wp2
    go_loopw [60] (fun i wr=>∃E G:List (MB×Value),Hid (D=E++G)/\E.length<=m/\i=.int .i64 (E.length:Nat)/\Hid (JW w wr xs gl cl bl (E.map (Ha xs)++G))) (fun i _=>m-(intOf i).toNat)
    case atStart=>exact⟨[],D,rfl,by simp,rfl,HJ0.o.1⟩
    case round=>
     clear HJ0;obtain⟨E,G,HEG,hE,rfl,HJ⟩:=hrel;have hlen:E.length+G.length=m:=by have:=HD.o.2;rw[HEG.o,aH]at this;exact this
     cases G with
     | nil=>
       have hEm:E.length=m:=by simpa using hlen
       have HF:Hid (Eu wr w.heap.size (.slice (some ⟨bl,0,none⟩) m m) (E.map (Ha xs))/\(E.map (Ha xs)).map Prod.fst=Ao xs):=by
        have hDE:D=E:=by rw[HEG.o];simp
        refine⟨⟨?_,?_⟩,?_⟩
        . have:=HJ.o.row
          rw[HM.o]at this;rw[a7,hEm];simpa using this
        . have:=HJ.o.fam
          exact⟨fun r hr=>this.own r (by simp at hr⊢;exact .inr hr),(by have h2:=this.sep;simp only[dR]at h2;exact(bS.1 h2).2)⟩
        . exact OT xs HG.o E (by rw[<-hDE];exact HD.o.1)
       have HBL:Hid (Below w.heap.size w wr):=HJ.o.bel;go_wp2
       go_ret
       exact⟨_,_,rfl,HF.o.1,.inr ⟨HG.o,HF.o.2⟩,HBL.o⟩
     | cons y G'=>
       obtain⟨⟨f,l,ps⟩,v⟩:=y;have hElt:E.length<m:=by simp only[dJ]at hlen;omega
       have hEL:(E.length:Int)<(m:Int):=by omega
       have hmem:((⟨f,l,ps⟩,v):MB×Value)∈D:=by rw[HEG.o];simp
       have HPS:Hid (∀p∈ps,0<=p/\p.toNat∈BQ xs xs.length):=HP.o _ hmem
       have hp2:ps.length<=2:=HPL.o _ hmem;have hov:=HJ.o.fam.own (v,ps) (by simp[Cw]);simp only[]at hov;obtain⟨av,cv,rfl⟩:∃a c,v=.slice a ps.length c:=(Rd.of_own hov).is_slice;have hrow:=HJ.o.row;rw[HM.o,bP,bT]at hrow;have hA:((E.map (Ha xs)).flatMap A9).length=E.length*3:=by rw[As A9 3 AJ,a7]
       have d0:=hrow.cellAt (E.length*3) (by omega);have d1:=hrow.cellAt (E.length*3+1) (by omega);have d2:=hrow.cellAt (E.length*3+2) (by omega);rw[aW (by omega),hA]at d0 d1 d2;rw[cg]at d0;rw[bg]at d1 d2;simp only[A9,cA,aM,aj]at d0 d1 d2;clear hrow hA hmem;obtain⟨wo,hwo⟩:∃W,W=wr:=⟨_,rfl⟩;subst hwo;go_upto_region 14 with fail
       refine Al (fun u=>Hid (JW w u xs gl cl bl (E.map (Ha xs)++(⟨f,l,ps⟩,.slice av ps.length cv)::G')/\Ak u wo.heap.size #[.int .i64 f,.int .i64 l,.slice av ps.length cv] 58)) ⟨HJ.o.keep (Aa _ _),Ak.new _ _ _⟩ ?_
       intro U1 HU1;clear d0 d1 d2;have b2:=HU1.o.2.cell 2;simp only[am,aM,aj]at b2;go_wp2
       go_loopw [67] (fun i wr=>∃k:Nat,k<=ps.length/\i=.int .i64 k/\Hid (JW w wr xs gl cl bl (E.map (Ha xs)++(⟨f,l,(ps.map (Ez xs)).take k++ps.drop k⟩,.slice av ps.length cv)::G')/\Ak wr wo.heap.size #[.int .i64 f,.int .i64 l,.slice av ps.length cv] 58)) (fun i _=>ps.length-(intOf i).toNat)
       case atStart=>exact⟨0,by omega,rfl,⟨by have h0:=HU1.o.1;simpa using h0,HU1.o.2⟩⟩
       case round=>
        clear HU1 b2;obtain⟨k,hk,rfl,HK⟩:=hrel;by_cases hlt:k<ps.length
        . obtain⟨p,hp⟩:∃p,ps[k]?=some p:=⟨_,aA hlt⟩
          have hcl:((ps.map (Ez xs)).take k++ps.drop k).length=ps.length:=by simp;omega
          have hov:=HK.o.1.fam.own (.slice av ps.length cv,(ps.map (Ez xs)).take k++ps.drop k) (by simp[Cw]);simp only[hcl]at hov
          obtain⟨gv,rfl⟩:∃gv,av=some ⟨gv,0,none⟩:=by
           rcases Bv hov with⟨_,h0⟩|⟨g,c,h0⟩
           . omega
           . simp only[aF]at h0
             exact⟨g,h0.1⟩
          have HC:Hid (ps[k]?=some p/\((ps.map (Ez xs)).take k++ps.drop k).length=ps.length/\0<=p/\p.toNat∈BQ xs xs.length):=⟨hp,hcl,HPS.o p (aE hp)⟩
          have c0:=hov.cellAt k (by omega);rw[Cj,bB,aW (by simp;omega)]at c0;rw[show k-(List.take k (ps.map (Ez xs))).length=0 by simp;omega,eP,aS,hp]at c0;simp only[dS]at c0;clear hp hcl hov;have hkL:(k:Int)<(ps.length:Int):=by omega
          go_wp2_with fail
          refine(HK.o.1.search HM.o hm1 p HC.o.2.2.1 HC.o.2.2.2).mono ?_;rintro e1 u3 ⟨⟨bb,rfl⟩,qq,hq⟩
          have HU3:Hid (JW w u3 xs gl cl bl (E.map (Ha xs)++(⟨f,l,(ps.map (Ez xs)).take k++ps.drop k⟩,.slice (some ⟨gv,0,none⟩) ps.length cv)::G')/\Ak u3 wo.heap.size #[.int .i64 f,.int .i64 l,.slice (some ⟨gv,0,none⟩) ps.length cv] 58):=by
           rw[hq];exact⟨HK.o.1.drew qq,HK.o.2⟩
          clear hq c0 HK;have hov:=HU3.o.1.fam.own (.slice (some ⟨gv,0,none⟩) ps.length cv,(ps.map (Ez xs)).take k++ps.drop k) (by simp[Cw]);simp only[HC.o.2.1]at hov;have b2:=HU3.o.2.cell 2;simp only[am,aM,aj]at b2;have c1:=hov.cellAt k (by omega);rw[Cj,bB,aW (by simp;omega)]at c1;rw[show k-(List.take k (ps.map (Ez xs))).length=0 by simp;omega,eP,aS,HC.o.1]at c1;simp only[dS]at c1;have c2:=hov.frozenAt k;have hxv:¬wo.heap.size=gv:=Mj HU3.o.2 hov (by decide);have HN:Hid (JW w (u3.setCell ⟨gv,k,none⟩ (.int .i64 (Ez xs p))) xs gl cl bl (E.map (Ha xs)++(⟨f,l,(ps.map (Ez xs)).take (k+1)++ps.drop (k+1)⟩,.slice (some ⟨gv,0,none⟩) ps.length cv)::G')/\Ak (u3.setCell ⟨gv,k,none⟩ (.int .i64 (Ez xs p))) wo.heap.size #[.int .i64 f,.int .i64 l,.slice (some ⟨gv,0,none⟩) ps.length cv] 58):=⟨HU3.o.1.set HC.o.2.1 (Ou xs ps k p HC.o.1) (by simp;omega),HU3.o.2.other (a:=⟨gv,k,none⟩) hxv _⟩
          clear hov;go_wp2
          go_roundw
          case rel=>exact⟨k+1,by omega,by go_num,HN⟩
          case measure=>simp[intOf];omega
        . obtain rfl:k=ps.length:=by omega
          have HN:Hid (JW w wr xs gl cl bl ((E++[((⟨f,l,ps⟩:MB),(.slice av ps.length cv:Value))]).map (Ha xs)++G')):=by
           have h0:=HK.o.1;rw[an (by simp),df lR,dR]at h0;show JW _ _ _ _ _ _ _;simpa[Ha]using h0
          go_wp2
          go_roundw
          case rel=>exact⟨E++[(⟨f,l,ps⟩,.slice av ps.length cv)],G',by show _=_;rw[HEG.o];simp,by simp only[aH,aI];omega,by simp only[aH,aI];go_num,HN⟩
          case measure=>simp[intOf];omega
theorem EY(P:Program)(w:World)(a:Addr)(m:Mode)(f:Fn)(x y:Array Value):(store a (.func f x y) m).run P w=stored P w a (.func f x y) m:=run_store P w a _ m rfl
theorem Fy(g o c n:Nat)(E:Nat->List Nat)(sv:Value)(T:List Nat)(bv_:Value)(S0:List Nat)(w:World)(hn:n<=1024)(hE:∀b,b<n->∀x∈E b,x<n)(hsz:∀b,(E b).length<=2048)(h:CK w g o n E)(hT:∀x∈T,x<n)(hTl:T.length<=4096)(hs:DR w sv T)(hS:(bv_=.slice none 0 0/\S0=[])\/∃x gx cx:Nat,S0=[x]/\x<n/\bv_=.slice (some ⟨gx,0,none⟩) 1 cx/\w.cell? ⟨gx,0,none⟩=some (.int .i64 (x:Int))):
 Calls Tryz.prog 116 #[.slice (some ⟨g,o,none⟩) n c,sv,bv_] w fun e w'=>∃V S O,e=.returned V/\Vs E S0 [] T S O/\DQ w' w.heap.size V O/\Below w.heap.size w w':=by
 have H:Hid (CK w g o n E/\(∀b,b<n->∀x∈E b,x<n)/\(∀b,(E b).length<=2048)/\(∀x∈T,x<n)/\DR w sv T):=⟨h,hE,hsz,hT,hs⟩
 obtain⟨at_,ct,rfl⟩:=Rd.is_slice hs;clear h hE hsz hT hs;have hmm:= @run_makeMap Tryz.prog;have hmf:∀(fn:Fn) (first cap:Array Value) (w:World),(Instr.makeFunc fn first cap).run Tryz.prog w=.ok (.func fn first cap) w:=fun _ _ _ _=>rfl
 go_enter Tryz.func116,Tryz.ntmps116;go_upto_region 3 with fail
 refine Al (fun u=>Hid (Ak u w.heap.size #[.slice (some ⟨g,o,none⟩) n c] 22/\Ak u (w.heap.size+1) #[.slice none 0 0] 28/\AU u (w.heap.size+1+1) 0 (.map [])/\Ak u (w.heap.size+1+1+1) #[.map (some (w.heap.size+1+1))] 174/\Below w.heap.size w u)) ?_ ?_
 . have b1:=Aa w (.cells #[.slice (some ⟨g,o,none⟩) n c] 22)
   have k1:=Ak.new w #[.slice (some ⟨g,o,none⟩) n c] 22;have z1:(w.alloc (.cells #[.slice (some ⟨g,o,none⟩) n c] 22)).heap.size=w.heap.size+1:=by simp
   generalize w.alloc (.cells #[.slice (some ⟨g,o,none⟩) n c] 22)=W1 at b1 k1 z1⊢;have b2:=Aa W1 (.cells #[.slice none 0 0] 28);have k2:=Ak.new W1 #[.slice none 0 0] 28;have z2:(W1.alloc (.cells #[.slice none 0 0] 28)).heap.size=w.heap.size+1+1:=by simp[z1]
   rw[z1]at k2;generalize W1.alloc (.cells #[.slice none 0 0] 28)=W2 at b2 k2 z2⊢;have b3:=Aa W2 (.map #[] 0);have k3:AU (W2.alloc (.map #[] 0)) W2.heap.size 0 (.map []):=World.ownsMap_made _ _ _ _;have z3:(W2.alloc (.map #[] 0)).heap.size=w.heap.size+1+1+1:=by simp[z2]
   rw[z2]at k3;generalize W2.alloc (.map #[] 0)=W3 at b3 k3 z3⊢;have b4:=Aa W3 (.cells #[.map (some (w.heap.size+1+1))] 174);have k4:=Ak.new W3 #[.map (some (w.heap.size+1+1))] 174;rw[z3]at k4;exact⟨((k1.keep b2).keep b3).keep b4,(k2.keep b3).keep b4,k3.keep b4,k4,Ab (Ab (Ab b1 lR b2) lR b3) lR b4⟩
 intro U0 HU0;have s0:U0.cell? ⟨w.heap.size+1+1+1,0,none⟩=some (.map (some (w.heap.size+1+1))):=HU0.o.2.2.2.1.cell 0
 have HAD:Hid (Calls Tryz.prog 102 #[.map (some (w.heap.size+1+1)),bv_] U0 fun e u'=>e=.returned (.tuple #[])/\(∃cnt D,AU u' (w.heap.size+1+1) cnt D/\cnt+Az S0 n<=n+1/\∀x:Nat,Go.Maps.has D (.int .i64 (x:Int))=S0.contains x)/\U0.grownBy u' (some (w.heap.size+1+1))):=by
  rcases hS with⟨rfl,rfl⟩|⟨x,gx,cx,rfl,hx,rfl,hc⟩
  . refine(OM _ U0).mono ?_
    rintro e u' ⟨rfl,rfl⟩;exact⟨rfl,⟨0,.map [],HU0.o.2.2.1,by rw[DD];omega,fun x=>rfl⟩,⟨rfl,rfl,rfl,Nat.le_refl _,fun _ _ _=>rfl⟩⟩
  . refine(Ek _ 0 gx cx _ (x:Int) U0 (Dl (by omega)) (by omega) (Ad HU0.o.2.2.2.2 hc) (by have:=aC hc;simp only[]at this;omega) HU0.o.2.2.1).mono ?_
    rintro e u' ⟨rfl,h1,h2⟩;refine⟨rfl,⟨_,_,h1,?_,fun y=> ?_⟩,h2⟩
    . have:=C7 [] n x hx (by simp)
      rw[DD]at this;omega
    . rw[DJ _ (dv HU0.o.2.2.1)]
      by_cases e:y=x
      . subst e;simp
      . have:¬(y:Int)=(x:Int):=by omega
        simp[e,this];rfl
 clear hS;go_wp2_with fail
 refine HAD.o.mono ?_;rintro e u1 ⟨rfl,hset,hg1⟩;have HU1:Hid (Ak u1 w.heap.size #[.slice (some ⟨g,o,none⟩) n c] 22/\Ak u1 (w.heap.size+1) #[.slice none 0 0] 28/\(∃cnt D,AU u1 (w.heap.size+1+1) cnt D/\cnt+Az S0 n<=n+1/\∀x:Nat,Go.Maps.has D (.int .i64 (x:Int))=S0.contains x)/\Ak u1 (w.heap.size+1+1+1) #[.map (some (w.heap.size+1+1))] 174/\Below w.heap.size w u1):=⟨HU0.o.1.gb hg1 (by simp;omega),HU0.o.2.1.gb hg1 (by simp),hset,HU0.o.2.2.2.1.gb hg1 (by simp),HU0.o.2.2.2.2.grown hg1 HU0.o.2.2.2.2.size (fun j hj=>by cases hj;omega)⟩
 clear hset hg1 HAD HU0 s0;have hsf:= @EY Tryz.prog;have kF:=Ak.new u1 #[.nilFunc] 206;have c9:(u1.alloc (.cells #[.nilFunc] 206)).cell? ⟨u1.heap.size,0,none⟩=some .nilFunc:=kF.cell 0;have f9:=kF.frozen 0
 have HPO:Hid (PO w (u1.alloc (.cells #[.func (.func 146) #[] #[.pointer (some ⟨w.heap.size+1+1+1,0,none⟩),.pointer (some ⟨w.heap.size,0,none⟩),.pointer (some ⟨u1.heap.size,0,none⟩),.pointer (some ⟨w.heap.size+1,0,none⟩)]] 206)) n (w.heap.size+1+1) (w.heap.size+1+1+1) w.heap.size u1.heap.size (w.heap.size+1) (.slice (some ⟨g,o,none⟩) n c) (.slice none 0 0) S0 []):=by
  have bA:=Aa u1 (.cells #[Qu (w.heap.size+1+1+1) w.heap.size u1.heap.size (w.heap.size+1)] 206);obtain⟨cnt,D,h1,h2,h3⟩:=HU1.o.2.2.1;refine⟨⟨cnt,D,h1.keep bA,h2,h3⟩,HU1.o.2.2.2.1.keep bA,HU1.o.1.keep bA,Ak.new u1 _ _,HU1.o.2.1.keep bA,bL _ _ _ _,Ab HU1.o.2.2.2.2 lR bA,⟨by omega,by omega⟩,?_⟩;have:=EZ n (S:=[]) (S':=S0) (fun x hx=>by cases hx);rw[DD]at this;simpa using this
 go_upto_region 6 with fail
 refine Al (fun u=>Hid (PO w u n (w.heap.size+1+1) (w.heap.size+1+1+1) w.heap.size u1.heap.size (w.heap.size+1) (.slice (some ⟨g,o,none⟩) n c) (.slice none 0 0) S0 [])) HPO ?_;intro U2 HU2;clear HPO kF c9 f9 HU1;obtain⟨bw,hbw⟩:∃bw,bw=u1.heap.size:=⟨_,rfl⟩;rw[<-hbw]at HU2⊢;clear hbw;go_wp2
 go_loopw [19] (fun i wr=>∃(k:Nat) (V:Value) (S O:List Nat),k<=T.length/\i=.int .i64 k/\Hid (Vs E S0 [] (T.take k) S O/\PO w wr n (w.heap.size+1+1) (w.heap.size+1+1+1) w.heap.size bw (w.heap.size+1) (.slice (some ⟨g,o,none⟩) n c) V S O)) (fun i _=>T.length-(intOf i).toNat)
 case atStart=>exact⟨0,_,S0,[],by omega,rfl,by simpa using Vs.nil S0 [],HU2.o⟩
 case round=>
  clear HU2;obtain⟨k,V,S,O,hk,rfl,HL⟩:=hrel;by_cases hlt:k<T.length
  . have hltI:(k:Int)<(T.length:Int):=by omega
    obtain⟨y,hy⟩:∃y,T[k]?=some y:=⟨_,aA hlt⟩;have hyn:y<n:=H.o.2.2.2.1 y (aE hy);obtain⟨ga,oa,rfl,_,y0⟩:=H.o.2.2.2.2.at_ hy;replace y0:=Ad HL.o.2.bel y0
    have f0:wr.cell? ⟨bw,0,none⟩=some (.func (.func 146) #[] #[.pointer (some ⟨w.heap.size+1+1+1,0,none⟩),.pointer (some ⟨w.heap.size,0,none⟩),.pointer (some ⟨bw,0,none⟩),.pointer (some ⟨w.heap.size+1,0,none⟩)]):=HL.o.2.wb.cell 0
    have HT:Hid (T.take (k+1)=T.take k++[y]):=by
     obtain⟨hl,rfl⟩:=aD.1 hy;exact ah hl
    clear hy;go_wp2_with fail
    refine(Px w g o c n (w.heap.size+1+1) (w.heap.size+1+1+1) w.heap.size bw (w.heap.size+1) E hn H.o.2.1 H.o.2.2.1 H.o.1 _ S O y V wr rfl hyn HL.o.2 (fun _=>HL.o.2.len)).mono ?_;rintro e u3 ⟨rfl,V3,S3,O3,hv3,hp3,hl3⟩
    have HN:Hid (Vs E S0 [] (T.take (k+1)) S3 O3/\PO w u3 n (w.heap.size+1+1) (w.heap.size+1+1+1) w.heap.size bw (w.heap.size+1) (.slice (some ⟨g,o,none⟩) n c) V3 S3 O3):=by
     refine⟨?_,hp3⟩;rw[HT.o];exact HL.o.1.app hv3
    clear hv3 hp3 hl3 y0 f0;go_wp2
    go_roundw
    case rel=>exact⟨k+1,V3,S3,O3,by omega,by go_num,HN⟩
    case measure=>simp[intOf];omega
  . obtain rfl:k=T.length:=by omega
    have l0:wr.cell? ⟨w.heap.size+1,0,none⟩=some V:=HL.o.2.lb.cell 0
    have HF:Hid (Vs E S0 [] T S O):=by
     have:=HL.o.1;rw[an lR]at this;exact this
    go_wp2
    go_ret
    exact⟨V,S,O,rfl,HF.o,HL.o.2.list,HL.o.2.bel⟩
section
variable {E:Nat->List Nat} {D:Nat->Nat->Bool} {n h b k y:Nat}
def Bt(E:Nat->List Nat)(D:Nat->Nat->Bool)(h b k:Nat):List Nat:=(((E b).take k).filter fun x=>decide (x=h)&&D h b).map fun _=>b
theorem FD(E:Nat->List Nat)(D:Nat->Nat->Bool)(b h:Nat):An E D (b+1) h=An E D b h++Bt E D h b (E b).length:=by
 unfold An Bt;rw[cj,bP];simp
theorem Hv(E:Nat->List Nat)(D:Nat->Nat->Bool)(h b:Nat):Bt E D h b 0=[]:=by simp[Bt]
theorem Jz(hy:(E b)[k]?=some h)(hD:D h b=true):Bt E D h b (k+1)=Bt E D h b k++[b]:=by
 obtain⟨hl,e⟩:=aD.1 hy;unfold Bt;rw[ah hl,ce,bx,e];simp[hD]
theorem FU(hy:(E b)[k]?=some y)(hn:¬(y=h/\D h b=true)):Bt E D h b (k+1)=Bt E D h b k:=by
 obtain⟨hl,e⟩:=aD.1 hy;unfold Bt;rw[ah hl,ce,bx,e]
 have:(decide (y=h)&&D h b)=false:=by
  cases q:D h b with
  |false=>simp
  |true=>simp;exact fun e=>hn ⟨e,q⟩
 simp[this]
theorem Gv(E:Nat->List Nat)(D:Nat->Nat->Bool)(h b k:Nat):(Bt E D h b k).length<=(E b).length:=by
 unfold Bt;rw[a7];refine aY (cJ _ _) ?_;rw[bp];omega
theorem D7(hsz:∀b,(E b).length<=2)(D:Nat->Nat->Bool)(h b:Nat):(An E D b h).length<=2*b:=by
 induction b with
 |zero=>simp[An]
 | succ b ih=>
   have h1:=Gv E D h b (E b).length;have h2:=hsz b;rw[FD,aH];omega
def RE(E:Nat->List Nat)(D:Nat->Nat->Bool)(n h x:Nat):Prop:=∃t∈An E D n h,CJ (AV E n) (· ≠h) t x
structure JY(E:Nat->List Nat)(D:Nat->Nat->Bool)(n h:Nat)(L:List Nat):Prop where
 nodup:L.Nodup
 ne:∀x∈L,x≠h
 lt:∀x∈L,x<n
 src:∀x∈L,RE E D n h x
theorem JY.len{L:List Nat}(h':JY E D n h L):L.length<=n:=by
 have:=Eb L n h'.lt h'.nodup;omega
theorem JY.nil:JY E D n h []:=⟨List.nodup_nil,fun _ q=>(by cases q),fun _ q=>(by cases q),fun _ q=>(by cases q)⟩
theorem JY.add{L:List Nat}(h':JY E D n h L)(hne:y≠h)(hlt:y<n)(hs:RE E D n h y)(hL:y∉L):JY E D n h (L++[y]):=by
 have hm:∀x,x∈L++[y]->x∈L\/x=y:=fun x hx=>by simpa using hx
 refine⟨dX.2 ⟨h'.nodup,by simp,fun a ha c hc e=> ?_⟩,fun x hx=> ?_,fun x hx=> ?_,fun x hx=> ?_⟩
 . simp only[aa,ao,cH]at hc
   subst hc e;exact hL ha
 . rcases hm x hx with q|rfl
   . exact h'.ne x q
   . exact hne
 . rcases hm x hx with q|rfl
   . exact h'.lt x q
   . exact hlt
 . rcases hm x hx with q|rfl
   . exact h'.src x q
   . exact hs
def Md(h:Nat)(L B:List Nat):Prop:=∀x∈B,x=h\/x∈L
theorem Md.app{L B:List Nat}(h':Md h L B)(z:Nat):Md h (L++[z]) B:=fun x hx=>(h' x hx).imp id fun q=>aU.2 (.inl q)
theorem Md.next{L L' B:List Nat}(h':Md h L (B.take k))(hs:∀x∈L,x∈L')(hy:B[k]?=some y)(hL:y=h\/y∈L'):Md h L' (B.take (k+1)):=fun z hz=>by
 obtain⟨hlt,rfl⟩:=aD.1 hy;rw[ah hlt]at hz;rcases aU.1 hz with hz|hz
 . exact(h' z hz).imp id (hs z)
 . simp only[aa,ao,cH]at hz
   subst hz;exact hL
def OC(E:Nat->List Nat)(n h:Nat)(L:List Nat)(i:Nat):Prop:=∀j x,L[j]?=some x->j<i->∀y,y<n->x∈E y->y=h\/y∈L
def IY(E:Nat->List Nat)(h:Nat)(L:List Nat)(x b:Nat):Prop:=∀y,y<b->x∈E y->y=h\/y∈L
theorem OC.app{L:List Nat}{i:Nat}(h':OC E n h L i)(hi:i<=L.length)(z:Nat):OC E n h (L++[z]) i:=fun j x hj hl y hy hx=>by
 rw[bG (by omega)]at hj;exact(h' j x hj hl y hy hx).imp id fun q=>aU.2 (.inl q)
theorem IY.app{L:List Nat}{x:Nat}(h':IY E h L x b)(z:Nat):IY E h (L++[z]) x b:=fun y hy hx=>(h' y hy hx).imp id fun q=>aU.2 (.inl q)
theorem IY.next{L:List Nat}{x:Nat}(h':IY E h L x b)(hb:x∈E b->b=h\/b∈L):IY E h L x (b+1):=fun y hy hx=>by
 by_cases e:y=b
 . subst e;exact hb hx
 . exact h' y (by omega) hx
theorem OC.next{L:List Nat}{i x:Nat}(h':OC E n h L i)(hx:L[i]?=some x)(hb:IY E h L x n):OC E n h L (i+1):=fun j z hj hl y hy hz=>by
 by_cases e:j=i
 . subst e
   rw[hx]at hj;cases hj
   exact hb y hy hz
 . exact h' j z hj (by omega) y hy hz
theorem JY.step{L:List Nat}(h':JY E D n h L){x:Nat}(hx:x∈L)(hb:b<n)(he:x∈E b)(hne:b≠h):RE E D n h b:=by
 obtain⟨t,h1,h2⟩:=h'.src x hx;exact⟨t,h1,.step h2 ((BS E n x b).2 ⟨hb,he⟩) hne⟩
theorem JY.iff{L:List Nat}(h':JY E D n h L)(hB:Md h L (An E D n h))(hc:OC E n h L L.length)(x:Nat):(h::L).contains x=true↔Ar E D n h x:=by
 simp only[List.contains_eq_mem,cG,aa];unfold Ar;refine or_congr_right ⟨h'.src x,?_⟩;rintro⟨t,h1,h2⟩;induction h2 with
 |here q=>exact(hB t h1).resolve_left q
 | step _ q2 q3 ih=>
   obtain⟨j,hj⟩:=bH ih;obtain⟨q4,q5⟩:=(BS E n _ _).1 q2;exact(hc j _ hj (aD.1 hj).1 _ q4 q5).resolve_left q3
end
theorem K2(h:Nat)(L:List Nat)(y n:Nat):∀j,j<n->(h::(L++[y])).contains j=if j=y then true else(h::L).contains j:=fun j _=>by
 by_cases e:j=y
 . subst e;simp
 . simp[e]
theorem Kk:(Tryz.prog.info? 68).map (fun i=>(i.zero,i.size,i.bytes))=some (some (.agg #[.int .i64 0,.slice none 0 0,.slice none 0 0]),3,56):=by kernel_rfl
structure L1(w u:World)(n h bl gi:Nat)(BV:Value)(B:List Nat):Prop where
 res:Ak u w.heap.size #[.int .i64 0,.slice none 0 0,.slice none 0 0] 68
 blk:Ak u bl #[.int .i64 (h:Int),BV,.slice none 0 0] 68
 inn:Eg u w.heap.size gi n (fun x=>[h].contains x)
 back:DQ u w.heap.size BV B
 bel:Below w.heap.size w u
 lt:w.heap.size<bl
theorem L1.al{w u:World}{n h bl gi:Nat}{BV:Value}{B:List Nat}(l:L1 w u n h bl gi BV B)(o:Obj):(u.alloc o).ownsRow w.heap.size 2 1 BV B.length (nv B)/\w.heap.size<=(u.alloc o).heap.size:=⟨l.back.keep (Aa _ _),aY l.bel.size (Aa _ _).size⟩
theorem L1.app{w u u':World}{n h bl gi:Nat}{BV V':Value}{B:List Nat}{y:Nat}(l:L1 w u n h bl gi BV B)(hown:u'.ownsRow w.heap.size 2 1 V' (B.length+1) (nv B++[.int .i64 (y:Int)]))(hg:(u.alloc (.cells #[.int .i64 (y:Int)] 2)).grownBy u' BV.ownBlock):Ak u' bl #[.int .i64 (h:Int),BV,.slice none 0 0] 68/\L1 w (u'.setCell ⟨bl,1,none⟩ V') n h bl gi V' (B++[y]):=by
 have bA:=Aa u (.cells #[.int .i64 (y:Int)] 2);have o1:=l.back.keep bA;have kb:Ak u' bl #[.int .i64 (h:Int),BV,.slice none 0 0] 68:=(l.blk.keep bA).grown hg o1 (by decide);have kr:=(l.res.keep bA).grown hg o1 (by decide);have ki:Eg u' w.heap.size gi n (fun x=>[h].contains x):=Bg (l.inn.keep bA) hg o1 (by decide);have hbel:Below w.heap.size w u':=(Ab l.bel lR bA).grown hg (aY l.bel.size bA.size) (fun i hi=>(l.back.lt i hi).1);refine⟨kb,kr.other (by have:=l.lt;simp only[];omega) _,?_,?_,?_,hbel.setCell (d8 l.lt) _,l.lt⟩
 . have:=kb.set 1 V'
   simpa using this
 . refine ki.other fun e=> ?_
   obtain⟨_,cur,h1⟩:=Am ki;subst e;unfold Ak at kb;rw[kb]at h1;simp only[aR,dD]at h1;exact absurd h1.2.1 (by decide)
 . unfold DQ
   rw[aH,aI,DC];refine aP hown (a:=⟨bl,1,none⟩) (fun q=> ?_) _;rcases hown.2 with⟨rfl,_⟩|⟨g',cap',cur',rfl,_,hg',_⟩
   . cases q
   . simp only[Value.ownBlock,aR]at q
     subst q;unfold Ak at kb;rw[kb]at hg';simp only[aR,dD]at hg';exact absurd hg'.2.1 (by decide)
theorem L1.keep{w u:World}{n h bl gi:Nat}{BV:Value}{B:List Nat}(l:L1 w u n h bl gi BV B){u':World}(hb:Below u.heap.size u u'):L1 w u' n h bl gi BV B:=⟨l.res.keep hb,l.blk.keep hb,l.inn.keep hb,l.back.keep hb,Ab l.bel lR hb,l.lt⟩
structure L2(w w1 u:World)(n gi:Nat)(P:Nat->Bool)(LV:Value)(L:List Nat):Prop where
 inn:Eg u w.heap.size gi n P
 list:DQ u w1.heap.size LV L
 fx:∀k,k<w1.heap.size->k≠gi->u.heap[k]?=w1.heap[k]?
 bel:Below w.heap.size w u
 size:w1.heap.size<=u.heap.size
 glt:gi<w1.heap.size
theorem L2.mark{w w1 u:World}{n gi:Nat}{P Q:Nat->Bool}{LV:Value}{L:List Nat}(l:L2 w w1 u n gi P LV L)(i:Nat)(b:Bool)(hQ:∀j,j<n->Q j=if j=i then b else P j):L2 w w1 (u.setCell ⟨gi,i,none⟩ (.bool b)) n gi Q LV L:=⟨l.inn.set i b hQ,Bb l.list l.inn (by decide) i _,fun k hk hne=>by rw[bi u _ k _ hne];exact l.fx k hk hne,l.bel.setCell (Am l.inn).1 _,by rw[cM];exact l.size,l.glt⟩
theorem L2.al{w w1 u:World}{n gi:Nat}{P:Nat->Bool}{LV:Value}{L:List Nat}(l:L2 w w1 u n gi P LV L)(o:Obj):(u.alloc o).ownsRow w1.heap.size 2 1 LV L.length (nv L)/\w1.heap.size<=(u.alloc o).heap.size:=⟨l.list.keep (Aa _ _),aY l.size (Aa _ _).size⟩
theorem L2.keep{w w1 u u':World}{n gi:Nat}{P:Nat->Bool}{LV:Value}{L:List Nat}(l:L2 w w1 u n gi P LV L)(hb:Below u.heap.size u u'):L2 w w1 u' n gi P LV L:=⟨l.inn.keep hb,l.list.keep hb,fun k hk hne=>by rw[hb.block k (bY hk l.size)];exact l.fx k hk hne,Ab l.bel lR hb,aY l.size hb.size,l.glt⟩
theorem L2.app{w w1 u u':World}{n gi:Nat}{P:Nat->Bool}{LV V':Value}{L:List Nat}{y:Nat}(l:L2 w w1 u n gi P LV L)(hw:w.heap.size<=w1.heap.size)(hown:u'.ownsRow w1.heap.size 2 1 V' (L.length+1) (nv L++[.int .i64 (y:Int)]))(hg:(u.alloc (.cells #[.int .i64 (y:Int)] 2)).grownBy u' LV.ownBlock):L2 w w1 u' n gi P V' (L++[y]):=by
 have bA:=Aa u (.cells #[.int .i64 (y:Int)] 2);have o1:=l.list.keep bA;refine⟨Bg (l.inn.keep bA) hg o1 (by decide),?_,fun k hk hne=> ?_,(Ab l.bel lR bA).grown hg (aY l.bel.size bA.size) (fun i hi=>aY hw (l.list.lt i hi).1),aY l.size (aY bA.size hg.size),l.glt⟩
 . unfold DQ
   rw[aH,aI,DC];exact hown
 . rw[hg.block k (bY hk (aY l.size bA.size)) (fun e=>by have:=(l.list.lt k e.symm).1;omega),bA.block k (bY hk l.size)]
   exact l.fx k hk hne
theorem L2.blk{w w1 u:World}{n gi:Nat}{P:Nat->Bool}{LV:Value}{L:List Nat}(l:L2 w w1 u n gi P LV L){b:Nat}{cur:Array Value}{t:TypeId}(hb:Ak w1 b cur t)(hne:b≠gi):Ak u b cur t:=by
 unfold Ak at*;rw[l.fx b (aQ.1 hb).1 hne];exact hb
theorem L2.cell{w w1 u:World}{n gi:Nat}{P:Nat->Bool}{LV:Value}{L:List Nat}(l:L2 w w1 u n gi P LV L){a:Addr}{x:Value}(hb:w1.cell? a=some x)(hne:a.block≠gi):u.cell? a=some x:=by
 have:=l.fx a.block (aC hb) hne;unfold World.cell? at*;rw[this];exact hb
theorem DQ.fx{w1 u:World}{base x:Nat}{s:Value}{l:List Nat}(h:DQ w1 base s l)(hf:∀k,k<w1.heap.size->k≠x->u.heap[k]?=w1.heap[k]?)(hx:∀g,s.ownBlock=some g->g≠x):DQ u base s l:=by
 refine⟨h.1,?_⟩;rcases h.2 with h|⟨g,cap,cur,rfl,hb1,hgg,hr⟩
 . exact .inl h
 . refine .inr ⟨g,cap,cur,rfl,hb1,?_,hr⟩
   rw[hf g (aQ.1 hgg).1 (hx g rfl)];exact hgg
theorem DQ.ne_blk{w:World}{base b:Nat}{s:Value}{l:List Nat}{cur:Array Value}{t:TypeId}(h:DQ w base s l)(hb:Ak w b cur t)(hne:2≠t):∀g,s.ownBlock=some g->g≠b:=Bc h hb hne
theorem Eg.congr{w:World}{base g n:Nat}{P Q:Nat->Bool}(h:Eg w base g n P)(hQ:∀i,i<n->P i=Q i):Eg w base g n Q:=by
 unfold Eg at*;rw[FV hQ]at h;exact h
structure L4(w w2 u:World)(n h bl gi:Nat)(BV KV:Value)(K:List Nat)(P:Nat->Bool):Prop where
 res:Ak u w.heap.size #[.int .i64 0,.slice none 0 0,.slice none 0 0] 68
 blk:Ak u bl #[.int .i64 (h:Int),BV,KV] 68
 inn:Eg u w.heap.size gi n P
 row:DQ u w2.heap.size KV K
 fx:∀k,k<w2.heap.size->k≠bl->u.heap[k]?=w2.heap[k]?
 bel:Below w.heap.size w u
 size:w2.heap.size<=u.heap.size
 blt:bl<w2.heap.size
theorem L4.al{w w2 u:World}{n h bl gi:Nat}{BV KV:Value}{K:List Nat}{P:Nat->Bool}(l:L4 w w2 u n h bl gi BV KV K P)(o:Obj):(u.alloc o).ownsRow w2.heap.size 2 1 KV K.length (nv K)/\w2.heap.size<=(u.alloc o).heap.size:=⟨l.row.keep (Aa _ _),aY l.size (Aa _ _).size⟩
theorem L4.app{w w2 u u':World}{n h bl gi:Nat}{BV KV V':Value}{K:List Nat}{P:Nat->Bool}{y:Nat}(l:L4 w w2 u n h bl gi BV KV K P)(hw:w.heap.size<bl)(hown:u'.ownsRow w2.heap.size 2 1 V' (K.length+1) (nv K++[.int .i64 (y:Int)]))(hg:(u.alloc (.cells #[.int .i64 (y:Int)] 2)).grownBy u' KV.ownBlock):Ak u' bl #[.int .i64 (h:Int),BV,KV] 68/\L4 w w2 (u'.setCell ⟨bl,2,none⟩ V') n h bl gi BV V' (K++[y]) P:=by
 have bA:=Aa u (.cells #[.int .i64 (y:Int)] 2);have o1:=l.row.keep bA;have kb:Ak u' bl #[.int .i64 (h:Int),BV,KV] 68:=(l.blk.keep bA).grown hg o1 (by decide);have kr:=(l.res.keep bA).grown hg o1 (by decide);have ki:Eg u' w.heap.size gi n P:=Bg (l.inn.keep bA) hg o1 (by decide);have hlow:w.heap.size<=w2.heap.size:=by have:=l.blt;omega
 have hbel:Below w.heap.size w u':=(Ab l.bel lR bA).grown hg (aY l.bel.size bA.size) (fun i hi=>aY hlow (l.row.lt i hi).1);refine⟨kb,kr.other (by simp only[];omega) _,?_,?_,?_,fun k hk hne=> ?_,hbel.setCell (d8 hw) _,?_,l.blt⟩
 . have:=kb.set 2 V'
   simpa using this
 . refine ki.other fun e=> ?_
   obtain⟨_,cur,h1⟩:=Am ki;subst e;unfold Ak at kb;rw[kb]at h1;simp only[aR,dD]at h1;exact absurd h1.2.1 (by decide)
 . unfold DQ
   rw[aH,aI,DC];refine aP hown (a:=⟨bl,2,none⟩) (fun q=> ?_) _;have:=(hown.lt bl q).1;have:=l.blt;omega
 . rw[bi u' _ k _ hne,hg.block k (bY hk (aY l.size bA.size)) (fun e=>by have:=(l.row.lt k e.symm).1;omega),bA.block k (bY hk l.size)]
   exact l.fx k hk hne
 . rw[cM]
   exact aY l.size (aY bA.size hg.size)
def zv(I:Nat->Int)(n:Nat):List Value:=(List.range n).map fun i=>Value.int .i64 (I i)
theorem Fh(I:Nat->Int)(n:Nat):(zv I n).length=n:=by simp[zv]
theorem L7(I:Nat->Int)(n i:Nat)(h:i<n):(zv I n)[i]?=some (.int .i64 (I i)):=by simp[zv,h]
theorem Q7{I J:Nat->Int}{n i:Nat}{x:Int}(h:∀j,J j=if j=i then x else I j):(zv I n).set i (.int .i64 x)=zv J n:=by
 apply cI;intro j;by_cases hj:j<n
 . rw[L7 _ _ _ hj,h j]
   by_cases e:j=i
   . subst e
     rw[dK (by rw[Fh];exact hj),a8 rfl]
   . rw[dC (by omega),L7 _ _ _ hj,bF e]
 . rw[aZ (by simp[Fh];omega),aZ (by rw[Fh];omega)]
theorem Q6(n:Nat):List.replicate n (Value.int .i64 (-1))=zv (fun _=> -1) n:=by
 apply cI;intro j;by_cases hj:j<n
 . rw[L7 _ _ _ hj]
   simp[hj]
 . rw[aZ (by simp;omega),aZ (by rw[Fh];omega)]
theorem Qi(I:Nat->Int)(n:Nat):zv I n=((List.range n).map I).flatMap Ac:=by
 unfold zv;rw[List.flatMap_map];induction List.range n with
 |nil=>rfl
 |cons x r ih=>simp[Ac,ih]
structure DW(w u:World)(G n:Nat)(A:Array Value)(gi:Nat)(I:Nat->Int):Prop where
 blk:∃x0 x1 x2 x3,A=#[x0,x1,x2,x3]/\Ak u G #[x0,x1,x2,x3,.slice (some ⟨gi,0,none⟩) n n] 161
 row:u.ownsRow w.heap.size 2 1 (.slice (some ⟨gi,0,none⟩) n n) n (zv I n)
 fx:∀k,k<w.heap.size->k≠G->u.heap[k]?=w.heap[k]?
 bel:Below G w u
 size:w.heap.size<=u.heap.size
 lt:G<w.heap.size
theorem DW.keep{w u u':World}{G n gi:Nat}{A:Array Value}{I:Nat->Int}(h:DW w u G n A gi I)(hb:Below u.heap.size u u'):DW w u' G n A gi I:=by
 obtain⟨x0,x1,x2,x3,e,k⟩:=h.blk;exact⟨⟨x0,x1,x2,x3,e,k.keep hb⟩,Ag h.row hb lR,fun k hk hne=>by rw[hb.block k (bY hk h.size)];exact h.fx k hk hne,h.bel.trans (hb.mono (by have:=h.lt;have:=h.size;omega)),aY h.size hb.size,h.lt⟩
theorem DW.cell{w u:World}{G n gi:Nat}{A:Array Value}{I:Nat->Int}(h:DW w u G n A gi I){a:Addr}{x:Value}(hb:w.cell? a=some x)(hne:a.block≠G):u.cell? a=some x:=by
 have:=h.fx a.block (aC hb) hne;unfold World.cell? at*;rw[this];exact hb
theorem DW.set{w u:World}{G n gi:Nat}{A:Array Value}{I J:Nat->Int}(h:DW w u G n A gi I)(b:Nat)(x:Int)(hJ:∀j,J j=if j=b then x else I j):DW w (u.setCell ⟨gi,b,none⟩ (.int .i64 x)) G n A gi J:=by
 obtain⟨x0,x1,x2,x3,e,k⟩:=h.blk;have hge:=(Am h.row).1;have hlt:=h.lt;refine⟨⟨x0,x1,x2,x3,e,k.other (by simp only[];omega) _⟩,?_,fun k hk hne=> ?_,h.bel.setCell (by simp only[];omega) _,by rw[cM];exact h.size,h.lt⟩
 . have:=(h.row.stored b (.int .i64 x)).1
   rw[Q7 hJ]at this;exact this
 . rw[bi u _ k _ (by simp only[];omega)]
   exact h.fx k hk hne
structure GQ(E:Nat->List Nat)(n:Nat)(pl:Nat->Nat)(k j:Nat)(I:Nat->Int):Prop where
 dinv:FO E n pl I
 uinv:I9 E n pl I k j
 kn:∀x,x<n->pl x<j->Kn I x
 all:k=0\/∀x,x<n->Kn I x
 z:I 0=-1
theorem GQ.step{E:Nat->List Nat}{n:Nat}{pl:Nat->Nat}{k j b:Nat}{I J:Nat->Int}{z:Int}(hP:Ce E n pl)(h:GQ E n pl k j I)(hb:b<n)(hb0:b≠0)(hj:pl b=j)(hc:AQ n I (AV E n b) z)(hJ:∀y,J y=if y=b then z else I y):GQ E n pl k (j+1) J:=by
 subst hj;have hps:=EL E n b;obtain⟨m,h1,h2,h3,h4,h5⟩:=Gz hP h.dinv hb hb0 hps h.kn hc;have hJ1:∀y,y≠b->I y=J y:=fun y hy=>by rw[hJ y,bF hy]
 have hJb:J b=(m:Int):=by rw[hJ b,a8 rfl,h1]
 obtain⟨d1,d2,d3,d4⟩:=h.dinv.set hP hb hb0 hps h.kn h2 h3 h4 h5 hJ1 hJb;refine⟨d1,h.uinv.set hP h.dinv hb hb0 hps h.kn h.all h2 h3 h4 h5 hJ1 hJb,fun x hx hl=> ?_,h.all.imp id fun q x hx=>d2 x (q x hx),?_⟩
 . by_cases e:x=b
   . subst e;exact .inr (by rw[hJb];omega)
   . refine d2 x (h.kn x hx ?_)
     have:=hP.inj x b hx hb;omega
 . rw[hJ 0,bF (Ne.symm hb0)]
   exact h.z
structure Hm(E:Nat->List Nat)(n:Nat)(pl:Nat->Nat)(I:Nat->Int):Prop where
 dinv:FO E n pl I
 all:∀x,x<n->Kn I x
 dom:∀d x,x<n->(CV I d x↔Ca E d x)
 z:I 0=-1
theorem PW(D:DataW Unit)(z y:Int):Go.Maps.has (D.del (.int .i64 z)) (.int .i64 y)=(Go.Maps.has D (.int .i64 y)&& !decide (y=z)):=by
 by_cases h:y=z
 . subst h
   rw[Go.Maps.has_del_same];simp
 . rw[Go.Maps.has_del_other (fun e=>h (by cases e;rfl))]
   simp[h]
theorem Pc(G n gN cN gO cO:Nat)(R:List Nat)(w:World)(hn:n<=1024)(hR:∀x∈R,x<n)(hRl:R.length<=1024)(h0:w.cell? ⟨G,0,none⟩=some (.slice (some ⟨gN,0,none⟩) n cN))(h2:w.cell? ⟨G,2,none⟩=some (.slice (some ⟨gO,0,none⟩) R.length cO))(hO:∀k x:Nat,R[k]?=some x->w.cell? ⟨gO,k,none⟩=some (.int .i64 (x:Int))):
 Calls Tryz.prog 86 #[.pointer (some ⟨G,0,none⟩)] w fun e w'=>∃(g cap:Nat) (zs:List Int),e=.returned (.slice (some ⟨g,0,none⟩) zs.length cap)/\w'.ownsRow w.heap.size 2 1 (.slice (some ⟨g,0,none⟩) zs.length cap) zs.length (zs.flatMap Ac)/\zs.Pairwise (· < ·)/\(∀z,z∈zs↔∃x:Nat,z=(x:Int)/\x<n/\x∉R)/\Below w.heap.size w w':=by
 have H:Hid (w.cell? ⟨G,0,none⟩=some (.slice (some ⟨gN,0,none⟩) n cN)/\w.cell? ⟨G,2,none⟩=some (.slice (some ⟨gO,0,none⟩) R.length cO)/\(∀k x:Nat,R[k]?=some x->w.cell? ⟨gO,k,none⟩=some (.int .i64 (x:Int)))/\∀x∈R,x<n):=⟨h0,h2,hO,hR⟩
 have hmm:= @run_makeMap Tryz.prog;have bM:=Aa w (.map #[] 0);have c0:=Ad bM h0;have HS:Hid (AU (w.alloc (.map #[] 0)) w.heap.size 0 (.map [])/\Below w.heap.size w (w.alloc (.map #[] 0))):=⟨World.ownsMap_made _ _ _ _,bM⟩
 clear h0 h2 hO hR bM;go_enter Tryz.func86,Tryz.ntmps86;go_wp2
 go_loopw [13] (fun i wr=>∃k:Nat,k<=n/\i=.int .i64 k/\Hid (∃cnt D,cnt<=k/\AU wr w.heap.size cnt D/\(∀z:Int,Go.Maps.has D (.int .i64 z)=decide (0<=z/\z<(k:Int)))/\Below w.heap.size w wr)) (fun i _=>n-(intOf i).toNat)
 case atStart=>exact⟨0,by omega,rfl,0,.map [],by omega,HS.o.1,fun z=>by
  have:¬(0<=z/\z<((0:Nat):Int)):=by omega
  simp only[this,decide_false];rfl,HS.o.2⟩
 case round=>
  clear HS c0;obtain⟨k,hk,rfl,HL⟩:=hrel;obtain⟨cnt,D,hcn,hset,hhas,hbel⟩:=HL.o;have HB:Hid (AU wr w.heap.size cnt D/\(∀z:Int,Go.Maps.has D (.int .i64 z)=decide (0<=z/\z<(k:Int)))/\Below w.heap.size w wr):=⟨hset,hhas,hbel⟩
  clear hset hhas hbel HL;by_cases hlt:k<n
  . have hltI:(k:Int)<(n:Int):=by omega
    have HA:Hid ((wr.alloc (.cells #[.int .i64 (k:Int)] 2)).cell? ⟨wr.heap.size,0,none⟩=some (.int .i64 (k:Int))/\AU (wr.alloc (.cells #[.int .i64 (k:Int)] 2)) w.heap.size cnt D/\¬wr.heap.size=w.heap.size/\Below w.heap.size w (wr.alloc (.cells #[.int .i64 (k:Int)] 2))):=⟨(Ak.new wr #[.int .i64 (k:Int)] 2).cell 0,HB.o.1.keep (Aa _ _),by have:=dx HB.o.1;omega,Ab HB.o.2.2 lR (Aa _ _)⟩
    go_wp2_with fail
    refine(Ek w.heap.size cnt wr.heap.size 1 D (k:Int) _ (Dl (by omega)) (by omega) HA.o.1 HA.o.2.2.1 HA.o.2.1).mono ?_;rintro e u4 ⟨rfl,s4,g4⟩
    have HN:Hid (∃cnt D,cnt<=k+1/\AU u4 w.heap.size cnt D/\(∀z:Int,Go.Maps.has D (.int .i64 z)=decide (0<=z/\z<((k+1:Nat):Int)))/\Below w.heap.size w u4):=by
     refine⟨_,_,by omega,s4,fun z=> ?_,HA.o.2.2.2.grown g4 HA.o.2.2.2.size (fun j hj=>by cases hj;exact Nat.le_refl _)⟩;rw[DJ D (dv HB.o.1),HB.o.2.1 z,db];simp;omega
    clear s4 g4;go_wp2
    go_roundw
    case rel=>exact⟨k+1,by omega,by go_num,HN⟩
    case measure=>simp[intOf];omega
  . have ekn:k=n:=by omega
    have hltI:¬(k:Int)<(n:Int):=by omega
    rw[ekn]at HB;have c2:=Ad HB.o.2.2 H.o.2.1;go_wp2
    go_loopw [26] (fun i wr=>∃j:Nat,j<=R.length/\i=.int .i64 j/\Hid (∃D,AU wr w.heap.size cnt D/\(∀z:Int,Go.Maps.has D (.int .i64 z)=(decide (0<=z/\z<(n:Int))&& !(ints (R.take j)).contains z))/\Below w.heap.size w wr)) (fun i _=>R.length-(intOf i).toNat)
    case atStart=>exact⟨0,by omega,rfl,D,HB.o.1,fun z=>by rw[HB.o.2.1 z];simp[ints],HB.o.2.2⟩
    case round=>
     clear HB c2;obtain⟨j,hj,rfl,HL⟩:=hrel;obtain⟨D,hset,hhas,hbel⟩:=HL.o;clear HL;by_cases hlt2:j<R.length
     . have hlt2I:(j:Int)<(R.length:Int):=by omega
       obtain⟨x,hx⟩:∃x,R[j]?=some x:=⟨_,aA hlt2⟩;have hxn:x<n:=H.o.2.2.2 x (aE hx);have o0:=Ad hbel (H.o.2.2.1 j x hx)
       have HT:Hid (R.take (j+1)=R.take j++[x]):=by
        obtain⟨hl,rfl⟩:=aD.1 hx;exact ah hl
       have HB:Hid ((∀z:Int,Go.Maps.has D (.int .i64 z)=(decide (0<=z/\z<(n:Int))&& !(ints (R.take j)).contains z))/\Below w.heap.size w wr):=⟨hhas,hbel⟩
       have hown:wr.ownsMap Tryz.prog 2 (unitElem (H:=Unit)) w.heap.size cnt D:=hset;have hw64:=Dl (x:=x) (by omega);clear hx hhas hbel hset;go_wp2_with (at_delete;refine wpList_delete_own _ rfl _ _ 174 2 rfl 201 Iw Tryz.underlying174 _ w.heap.size cnt D rfl hown _ _ rfl (dt Tryz.underlying2 hw64) ?_;intro w1 hown1 hturn1)
       have HN:Hid (∃D,AU w1 w.heap.size cnt D/\(∀z:Int,Go.Maps.has D (.int .i64 z)=(decide (0<=z/\z<(n:Int))&& !(ints (R.take (j+1))).contains z))/\Below w.heap.size w w1):=by
        refine⟨_,hown1,fun z=> ?_,HB.o.2.grown hturn1.grown HB.o.2.size (fun j hj=>by cases hj;exact Nat.le_refl _)⟩;rw[PW,HB.o.1 z,HT.o];unfold ints;rw[bx,Bool.and_assoc];congr 1;rw[db];simp
       clear hown1 hturn1 o0 hown;go_roundw
       case rel=>exact⟨j+1,by omega,by go_num,HN⟩
       case measure=>simp[intOf];omega
     . have ejn:j=R.length:=by omega
       have hlt2I:¬(j:Int)<(R.length:Int):=by omega
       have HB:Hid ((∀z:Int,Go.Maps.has D (.int .i64 z)=(decide (0<=z/\z<(n:Int))&& !(ints R).contains z))/\Below w.heap.size w wr/\AU wr w.heap.size cnt D):=by
        rw[an (by omega)]at hhas;exact⟨hhas,hbel,hset⟩
       clear hhas hbel hset;go_wp2_with fail
       refine(IK w.heap.size cnt D _ (by omega) HB.o.2.2).mono ?_;rintro e u9 ⟨g9,cap9,zs,rfl,own9,hsrt,hmem,b9⟩
       have HE:Hid (u9.ownsRow w.heap.size 2 1 (.slice (some ⟨g9,0,none⟩) zs.length cap9) zs.length (zs.flatMap Ac)/\zs.Pairwise (· < ·)/\(∀z,z∈zs↔∃x:Nat,z=(x:Int)/\x<n/\x∉R)/\Below w.heap.size w u9):=by
        refine⟨AF own9 HB.o.2.1.size,hsrt,fun z=> ?_,Ab HB.o.2.1 lR b9⟩;rw[hmem,HB.o.1 z];simp only[dw,cG,Bool.not_eq_true',List.contains_eq_mem,dy];unfold ints;constructor
        . rintro⟨_,⟨h1,h2⟩,h3⟩
          refine⟨z.toNat,by omega,by omega,fun q=>h3 (au.2 ⟨z.toNat,q,by omega⟩)⟩
        . rintro⟨x,rfl,h1,h2⟩
          refine⟨Dl (by omega),⟨by omega,by omega⟩,fun q=>h2 ?_⟩;obtain⟨y,hy,e⟩:=au.1 q;have:y=x:=by omega
          rw[<-this];exact hy
       clear own9 hsrt hmem b9;go_wp2
       go_ret
       exact⟨g9,cap9,zs,rfl,HE.o.1,HE.o.2.1,HE.o.2.2.1,HE.o.2.2.2⟩
end Go.Proofs.YtdipfjmlfbdkdaaGreat
