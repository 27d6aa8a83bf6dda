import Derived.Test.YtmalfecapdmdbaaGreatHo25
import Derived.Test.YtmalfecapdmdbaaGreatHo24
namespace Go.Proofs.YtmalfecapdmdbaaGreat
open Go.ChangeShapes Go.WideShapes Go.ChangeAt Go.RowKit Go.Proofs.Tryz
set_option linter.unusedVariables false
open Go.Value renaming slice → Z,agg → Am,tuple → Ao
open Option renaming some → K,none → M
open Go renaming Value → J,World → Y,Calls → Ai
open Go.RowKit renaming Hid → Ae,Below → Ah
open Go.IntKind renaming i64 → Af
open Go.Obj renaming cells → Ak
open Go.Ending renaming returned → Al
open Go.Proofs.Tryz renaming prog → Ap
open Go.World renaming setCell → Aa,ownsRow → Ab,alloc → Ac
open List renaming flatMap → Ad
set_option maxHeartbeats 8000000
set_option maxRecDepth 100000
theorem Nn{u:Y}{B g n c k:Nat}{P Q:Nat->Bool}{b:Bool}(h:Ab u B 4 1 (sG g n c) n (bv P n))(a:∀j,j<n->Q j=if j=k then b else P j):Ab (Aa u ⟨g,k,M⟩ b) B 4 1 (sG g n c) n (bv Q n):=by have:=(mI h k b).1;rw[TX (Q:=Q) a]at this;exact this
theorem Dh{α:Type}{l:List α}{k:Nat}{z y:α}(h:l[k]?=K z):y∈l.take (k+1)↔y∈l.take k\/y=z:=by rw[List.take_add_one,h];simp
theorem Uj{I:List Nat}{k b c y:Nat}(h:I[k]?=K y):jf (I.set k c) b=if b=k then c else jf I b:=by
 have a:=(i6.1 h).1;unfold jf;rw[kL,kL,List.getElem?_set];by_cases e:b=k
 . subst e;simp[a]
 rw[kP (Ne.symm e),kP e]
def Wr(E:Nat->List Nat)(n:Nat)(a:List Nat)(h:List Int)(I:List Nat)(C:List Int)(f:Nat)(t:Int)(i bd:Bool)(k:Int):Prop:=∃g L d e,KF E n (λj=>decide (j∈a)) I C f i g L/\(g=false->Ye E n (λj=>decide (j∈a)) I C f L)/\(∀c,cf L c<=4294967295)/\Ck (λb=>cf L (jf I b)) (λb=>b∈a/\(b:Int)∈h) d/\Ck (λb=>cf L (jf I b)) (λb=>b∈a/\∃y∈E b,y∉a) e/\((bd=g/\k=t*d+e/\t*d+e<=4294967295)\/bd=true/\4294967295<t*d+e)
def XO(w u:Y)(G n:Nat)(x:GV)(I:List Nat)(C:List Int)(E:Nat->List Nat)(a:Nat)(h:List Int)(e:List Nat)(t:Int)(i:Bool)(g:Y):Prop:=∃f d c,Gr w g G n x f d (C.set a c)/\Ew c/\(∀b,b< ↑u->b≠G->b≠x.gi->b≠x.gc->g.heap[b]?=u.heap[b]?)/\(∀b,jf d b=if b∈e then a else jf I b)/\Wr E n e h I C a t i f c
theorem Yz{q:Prop}(h:q:=by
 obtain⟨ga,oa,ea,_,e0⟩:=H.2.2.2.1.at_ (an hlt);have hto:Ks[k]<n:=H.2.2.2.2 _ (mN hlt);have HZ:=Av (an hlt);subst ea;generalize Ks[k]=z at hto e0 HZ;have htoI:(z:Int)<(n:Int):=by omega
 have HC:Ae (∀(W:Y) (bd:Bool) (I':List Nat),Gr w W G n x bd I' C/\Bx w u W G x X hd (Z ab Bk cb) (sO ga oa Ks ck)->W ⟨G,6,M⟩=K (sG x.gi n x.ci)/\W ⟨X,2,M⟩=K (sO ga oa Ks ck)/\W ⟨ga,oa+k,M⟩=K ↑z/\W X=K ↑hd):= λW bd I' hW=>⟨hW.1.cells.2.2.1,hW.2.cells.2.2,Au hW.1.e8 e0,hW.2.cells.1⟩
 go_upto_region 30 with fail
 have ED:Ae (Gr w wr.drew G n x bad2 I2 C/\Bx w u wr.drew G x X hd (Z ab Bk cb) (sO ga oa Ks ck)):=⟨E5.1.a7 (At _),E5.2.1.a7 (At _)⟩
 refine wp_region_held_drew (S:= λW=>W ⟨G,6,M⟩=K (sG x.gi n x.ci)/\W ⟨X,2,M⟩=K (sO ga oa Ks ck)/\W ⟨ga,oa+k,M⟩=K ↑z/\W X=K ↑hd) (by kernel_rfl) (by exact HC.o _ _ _ ED) (λhHeld=> ?_)
 generalize wr.drew=UD at ED hHeld⊢;obtain⟨y0,hy0,_,i0⟩:=ED.1.iM hto;have z0:=ED.1.ia.frozenAt z;have EN:Ae (Gr w (Aa UD ⟨x.gi,z,M⟩ hd) G n x bad2 (I2.set z hd) C/\Bx w u (Aa UD ⟨x.gi,z,M⟩ hd) G x X hd (Z ab Bk cb) (sO ga oa Ks ck)):=⟨ED.1.jU z hh,ED.2.row ED.1.ia (by decide) (.inr (.inl rfl))⟩
 have HI:Ae (∀b,jf (I2.set z hd) b=if b∈Ks.take (k+1)then hd else jf I b):= λb=>by
  rw[Uj hy0,E5.2.2 b];have:=Dh (y:=b) HZ;by_cases e:b=z
  . rw[kZ e,kZ (this.2 (.inr e))]
  rw[kP e];by_cases e2:b∈Ks.take k
  . rw[kZ e2,kZ (this.2 (.inl e2))]
  rw[kP e2,kP (λq=>(this.1 q).elim e2 e)]
 refine AK 0 ?_;refine AK 1 ?_;refine AK 2 ?_;refine AK 3 ?_;refine AK 4 ?_;refine AK 5 ?_;refine AK 6 ?_;refine AK 7 ?_;refine AK 8 ?_;refine AK 9 ?_;refine AK 10 ?_;refine AK 11 ?_;refine D3 12 ?_;intro KC hKC;go_simp;refine hKC.o _ _ (by exact HC.o _ _ _ EN) (λhHeld=> ?_);refine wpAnyH_done (by kernel_rfl) ?_ _;generalize Aa UD ⟨x.gi,z,M⟩ hd=UE at EN⊢;go_wp2_with fail;go_roundw;case rel=>exact⟨k+1,by omega,by go_num,_,EN.1,EN.2,HI⟩
 simp[intOf];omega):q:=h
theorem Yy{q:Prop}(h:q:=by
 go_wp2_with fail;clear x0 x1 x2 p2 p3 p6 p7 p8 z8 E2 HA;go_loopw [18] (λi wr=>∃k:Nat,k<= ↑Ks/\i=iZ k/\Ae (∃I',Gr w wr G n x bad2 I' C/\Bx w u wr G x X hd (Z ab Bk cb) (Z ak Ks ck)/\∀b,jf I' b=if b∈Ks.take k then hd else jf I b)) (λi _=> ↑Ks-(intOf i).toNat)
 case atStart=>exact⟨0,by omega,rfl,_,E3.1,E3.2, λb=>by simp⟩
 clear E3;obtain⟨k,hk',rfl,E4⟩:=hrel;obtain⟨I2,hg4,hx4⟩:=E4.o;have E5:Ae (Gr w wr G n x bad2 I2 C/\Bx w u wr G x X hd (Z ab Bk cb) (Z ak Ks ck)/\∀b,jf I2 b=if b∈Ks.take k then hd else jf I b):=⟨hg4,hx4⟩
 clear hg4 hx4 E4;obtain⟨x0,x1,x2⟩:=E5.2.1.cells;by_cases hlt:k< ↑Ks
 . (have hltI:(k:Int)<(Ks:Int):=by omega);exact Yz
 have HC:Ae (∀(W:Y) (bd:Bool) (I':List Nat) (C:List Int),Gr w W G n x bd I' C/\Bx w u W G x X hd (Z ab Bk cb) (Z ak Ks ck)->W ⟨G,7,M⟩=K (sG x.gc n x.cc)/\W X=K ↑hd):= λW bd I' C hW=>⟨hW.1.cells.2.2.2.1,hW.2.cells.1⟩
 have hhI:(hd:Int)<(n:Int):=by omega
 have HI:Ae (∀b,jf I2 b=if b∈Ks then hd else jf I b):= λb=>by
  have:=E5.2.2 b;rw[k8 (show ↑Ks<=k by omega)]at this
  exact this
 go_upto_region 31 with fail
 have ED:Ae (Gr w wr.drew G n x bad2 I2 C/\Bx w u wr.drew G x X hd (Z ab Bk cb) (Z ak Ks ck)):=⟨E5.1.a7 (At _),E5.2.1.a7 (At _)⟩
 refine wp_region_held_drew (S:= λW=>W ⟨G,7,M⟩=K (sG x.gc n x.cc)/\W X=K ↑hd) (by kernel_rfl) (by exact HC.o _ _ _ _ ED) (λhHeld=> ?_)
 generalize wr.drew=UD at ED hHeld⊢;obtain⟨y0,_,_,i0⟩:=ED.1.iL hh;have z0:=ED.1.cost.frozenAt hd;have EN:Ae (Gr w (Aa UD ⟨x.gc,hd,M⟩ tt) G n x bad2 I2 (C.set hd tt)/\Bx w u (Aa UD ⟨x.gc,hd,M⟩ tt) G x X hd (Z ab Bk cb) (Z ak Ks ck)):=⟨ED.1.iD hd HT.1,ED.2.row ED.1.cost (by decide) (.inr (.inr rfl))⟩
 refine AK 0 ?_;refine AK 1 ?_;refine AK 2 ?_;refine AK 3 ?_;refine AK 4 ?_;refine AK 5 ?_;refine AK 6 ?_;refine AK 7 ?_;refine D3 8 ?_;intro KC hKC;go_simp;refine hKC.o _ _ (by exact HC.o _ _ _ _ EN) (λhHeld=> ?_);refine wpAnyH_done (by kernel_rfl) ?_ _;refine oR (v:=Ao #[]) (by kernel_rfl) rfl ?_;exact⟨rfl,bad2,_,tt,EN.1,HT.1,EN.2.fr,HI,HT.2⟩):q:=h
theorem X9{q:Prop}(h:q:=by
 obtain⟨ga,oa,ea,_,e0⟩:=H.2.2.2.1.at_ (an hlt);have hto:Ks[k]<n:=H.2.2.2.2 _ (mN hlt);have HZ:Ae (Ks[k]?=K Ks[k]):=an hlt;subst ea;generalize Ks[k]=z at hto e0 HZ;have htoI:(z:Int)<(n:Int):=by omega
 have HC:Ae (∀(W:Y) (bd:Bool) (I':List Nat),Gr w W G n x bd I' C/\Bx w u W G x X hd (Z ab Bk cb) (sO ga oa Ks ck)->W ⟨G,6,M⟩=K (sG x.gi n x.ci)/\W ⟨X,2,M⟩=K (sO ga oa Ks ck)/\W ⟨ga,oa+k,M⟩=K ↑z/\W X=K ↑hd):= λW bd I' hW=>⟨hW.1.cells.2.2.1,hW.2.cells.2.2,Au hW.1.e8 e0,hW.2.cells.1⟩
 go_upto_region 30 with fail
 have ED:Ae (Gr w wr.drew G n x true I2 C/\Bx w u wr.drew G x X hd (Z ab Bk cb) (sO ga oa Ks ck)):=⟨E5.1.a7 (At _),E5.2.1.a7 (At _)⟩
 refine wp_region_held_drew (S:= λW=>W ⟨G,6,M⟩=K (sG x.gi n x.ci)/\W ⟨X,2,M⟩=K (sO ga oa Ks ck)/\W ⟨ga,oa+k,M⟩=K ↑z/\W X=K ↑hd) (by kernel_rfl) (by exact HC.o _ _ _ ED) (λhHeld=> ?_)
 generalize wr.drew=UD at ED hHeld⊢;obtain⟨y0,hy0,_,i0⟩:=ED.1.iM hto;have z0:=ED.1.ia.frozenAt z;have EN:Ae (Gr w (Aa UD ⟨x.gi,z,M⟩ hd) G n x true (I2.set z hd) C/\Bx w u (Aa UD ⟨x.gi,z,M⟩ hd) G x X hd (Z ab Bk cb) (sO ga oa Ks ck)):=⟨ED.1.jU z hh,ED.2.row ED.1.ia (by decide) (.inr (.inl rfl))⟩
 have HI:Ae (∀b,jf (I2.set z hd) b=if b∈Ks.take (k+1)then hd else jf I b):= λb=>by
  rw[Uj hy0,E5.2.2 b];have:=Dh (y:=b) HZ;by_cases e:b=z
  . rw[kZ e,kZ (this.2 (.inr e))]
  rw[kP e];by_cases e2:b∈Ks.take k
  . rw[kZ e2,kZ (this.2 (.inl e2))]
  rw[kP e2,kP (λq=>(this.1 q).elim e2 e)]
 refine AK 0 ?_;refine AK 1 ?_;refine AK 2 ?_;refine AK 3 ?_;refine AK 4 ?_;refine AK 5 ?_;refine AK 6 ?_;refine AK 7 ?_;refine AK 8 ?_;refine AK 9 ?_;refine AK 10 ?_;refine AK 11 ?_;refine D3 12 ?_;intro KC hKC;go_simp;refine hKC.o _ _ (by exact HC.o _ _ _ EN) (λhHeld=> ?_);refine wpAnyH_done (by kernel_rfl) ?_ _;generalize Aa UD ⟨x.gi,z,M⟩ hd=UE at EN⊢;go_wp2_with fail;go_roundw;case rel=>exact⟨k+1,by omega,by go_num,_,EN.1,EN.2,HI⟩
 simp[intOf];omega):q:=h
theorem WC{q:Prop}(h:q:=by
 go_wp2_with fail;clear x0 x1 x2 p2 p3 p6 p7 p8 z8 E2 HA;go_loopw [18] (λi wr=>∃k:Nat,k<= ↑Ks/\i=iZ k/\Ae (∃I',Gr w wr G n x true I' C/\Bx w u wr G x X hd (Z ab Bk cb) (Z ak Ks ck)/\∀b,jf I' b=if b∈Ks.take k then hd else jf I b)) (λi _=> ↑Ks-(intOf i).toNat)
 case atStart=>exact⟨0,by omega,rfl,_,E3.1,E3.2, λb=>by simp⟩
 clear E3;obtain⟨k,hk',rfl,E4⟩:=hrel;obtain⟨I2,hg4,hx4⟩:=E4.o;have E5:Ae (Gr w wr G n x true I2 C/\Bx w u wr G x X hd (Z ab Bk cb) (Z ak Ks ck)/\∀b,jf I2 b=if b∈Ks.take k then hd else jf I b):=⟨hg4,hx4⟩
 clear hg4 hx4 E4;obtain⟨x0,x1,x2⟩:=E5.2.1.cells;by_cases hlt:k< ↑Ks
 . (have hltI:(k:Int)<(Ks:Int):=by omega);exact X9
 have HC:Ae (∀(W:Y) (bd:Bool) (I':List Nat) (C:List Int),Gr w W G n x bd I' C/\Bx w u W G x X hd (Z ab Bk cb) (Z ak Ks ck)->W ⟨G,7,M⟩=K (sG x.gc n x.cc)/\W X=K ↑hd):= λW bd I' C hW=>⟨hW.1.cells.2.2.2.1,hW.2.cells.1⟩
 have hhI:(hd:Int)<(n:Int):=by omega
 have HI:Ae (∀b,jf I2 b=if b∈Ks then hd else jf I b):= λb=>by
  have:=E5.2.2 b;rw[k8 (show ↑Ks<=k by omega)]at this
  exact this
 go_upto_region 31 with fail
 have ED:Ae (Gr w wr.drew G n x true I2 C/\Bx w u wr.drew G x X hd (Z ab Bk cb) (Z ak Ks ck)):=⟨E5.1.a7 (At _),E5.2.1.a7 (At _)⟩
 refine wp_region_held_drew (S:= λW=>W ⟨G,7,M⟩=K (sG x.gc n x.cc)/\W X=K ↑hd) (by kernel_rfl) (by exact HC.o _ _ _ _ ED) (λhHeld=> ?_)
 generalize wr.drew=UD at ED hHeld⊢;obtain⟨y0,_,_,i0⟩:=ED.1.iL hh;have z0:=ED.1.cost.frozenAt hd;have EN:Ae (Gr w (Aa UD ⟨x.gc,hd,M⟩ (iZ 0)) G n x true I2 (C.set hd 0)/\Bx w u (Aa UD ⟨x.gc,hd,M⟩ (iZ 0)) G x X hd (Z ab Bk cb) (Z ak Ks ck)):=⟨ED.1.iD hd HT.1,ED.2.row ED.1.cost (by decide) (.inr (.inr rfl))⟩
 refine AK 0 ?_;refine AK 1 ?_;refine AK 2 ?_;refine AK 3 ?_;refine AK 4 ?_;refine AK 5 ?_;refine AK 6 ?_;refine AK 7 ?_;refine D3 8 ?_;intro KC hKC;go_simp;refine hKC.o _ _ (by exact HC.o _ _ _ _ EN) (λhHeld=> ?_);refine wpAnyH_done (by kernel_rfl) ?_ _;refine oR (v:=Ao #[]) (by kernel_rfl) rfl ?_;exact⟨rfl,true,_,0,EN.1,HT.1,EN.2.fr,HI,HT.2⟩):q:=h
theorem Ya{q:Prop}(h:q:=by
 rintro e u4 ⟨tt,rfl,htt,hU⟩;rcases hU with⟨rfl,rfl,_⟩|⟨_,_,h3⟩
 case inr=>exact absurd h3 (by have:=HB.o;omega)
 have E3:Ae (Gr w u4 G n x bad2 I C/\Bx w u u4 G x X hd (Z ab Bk cb) (Z ak Ks ck)):=⟨E2.1.gr,E2.2⟩
 generalize _+o0=tt at HT htt⊢;exact Yy):q:=h
theorem Xz{q:Prop}(h:q:=by
 go_wp2_with fail;go_loopw [11,16] (λo j wr=>∃(q:Nat) (o0:Int),q<= ↑eb/\o=iZ o0/\j=iZ q/\wr=u3/\Ae (Ew o0/\Ck (λb=>cf L (jf I b)) (λb=>(b∈Ks.take k/\∃y∈E b,y∉Ks)\/b=z/\∃y∈eb.take q,y∉Ks) o0)) (λ_ j _=> ↑eb-(intOf j).toNat)
 case atStart=>exact⟨0,o0,by omega,rfl,rfl,rfl,HA.2.1,HA.2.2.2.iff λb=>by simp⟩
 obtain⟨q,o1,hq,rfl,rfl,rfl,HO⟩:=hrel;by_cases hlq:q< ↑eb
 case neg=>
  go_wp2_with fail;go_roundw;case rel=>
   refine⟨k+1,_,o1,by omega,by trivial,by trivial,by go_num,by trivial,HA1.1,HO.1,HA1.2,HO.2.iff λb=> ?_⟩;rw[Dh HZ,k8 (show ↑eb<=q by omega),<-HEb]
   constructor
   . rintro⟨e|e,h⟩
     . exact .inl ⟨e,h⟩
     exact .inr ⟨e,e▸h⟩
   rintro(⟨e,h⟩|⟨e,h⟩)
   . exact⟨.inl e,h⟩
   exact⟨.inr e,e▸h⟩
  case measure=>simp[intOf];omega
 have hlqI:(q:Int)<(eb:Int):=by omega
 obtain⟨gx,ox,ex,_,v0⟩:=HE.1.at_ (an hlq);have hto2:eb[q]<n:=HE.2 _ (mN hlq);have HY:Ae (eb[q]?=K eb[q]):=an hlq;subst ex;generalize eb[q]=y at hto2 v0 HY;have hto2I:(y:Int)<(n:Int):=by omega
 have n1:=E2.1.j6 hto2;by_cases hPy:y∈Ks
 . rw [decide_eq_true hPy]at n1;go_wp2_with fail;go_roundw;case rel=>
    refine⟨q+1,o1,by omega,by trivial,by go_num,by trivial,HO.1,HO.2.iff λb=> ?_⟩;constructor
    . rintro(h|⟨e,y',h,h2⟩)
      . exact .inl h
      rcases(Dh HY).1 h with h|rfl
      . exact .inr ⟨e,y',h,h2⟩
      exact absurd hPy h2
    rintro(h|⟨e,y',h,h2⟩)
    . exact .inl h
    exact .inr ⟨e,y',(Dh HY).2 (.inl h),h2⟩
   case measure=>simp[intOf];omega
 rw[lZ hPy]at n1;have HM:Ae (Ck (λb=>cf L (jf I b)) (λb=>(b∈Ks.take k/\∃y∈E b,y∉Ks)\/b=z/\∃y∈eb.take (q+1),y∉Ks) (max o1 c)):=by
  rw[<-HFz];refine HO.2.add λb=> ?_
  constructor
  . rintro(h|⟨e,_⟩)
    . exact .inl (.inl h)
    exact .inr e
  rintro((h|⟨e,y',h,h2⟩)|e)
  . exact .inl h
  . exact .inr ⟨e,y',(Dh HY).2 (.inl h),h2⟩
  exact .inr ⟨e,y,(Dh HY).2 (.inr rfl),hPy⟩
 by_cases hco:c>o1
 . rw[show max o1 c=c by omega]at HM;go_wp2_with fail;go_roundw;(case rel=>exact⟨q+1,c,by omega,by trivial,by go_num,by trivial,⟨by have:=HO.1.1;omega,hc.2⟩,HM⟩);simp[intOf];omega
 rw[show max o1 c=o1 by omega]at HM;go_wp2_with fail;go_roundw;case rel=>exact⟨q+1,o1,by omega,by trivial,by go_num,by trivial,HO.1,HM⟩
 simp[intOf];omega):q:=h
theorem ME(w u:Y)(G n:Nat)(x:GV)(bad:Bool)(I:List Nat)(C:List Int)(E:Nat->List Nat)(O:List Nat)(hd:Nat)(vb vk:J)(Bk:List Int)(Ks:List Nat)(t:Int)(h0:n<=1048576)(hh:hd<n)(ht:Ew t)(h:Gr w u G n x bad I C)(hF:GF w n x E O)(hB:Rd w 1 vb Bk (Ad As Bk))(ao:Bk.length<=1048576)(hK:I5 w vk Ks)(b7:Ks.length<=1048576)(au:∀y∈Ks,y<n)(aI:∀b,b∈Ks->jf I b=hd->b=hd)(aH:jf I hd=hd)(aw:∀b,b<n->∃j:Nat,O[j]?=K b):
 Ai Ap 72 #[.pointer G,Am #[hd,vb,vk],t] u λe u'=>e=Al (Ao #[])/\XO w u G n x I C E hd Bk Ks t bad u':=by
 obtain⟨j0,hj,hy0,aX,aY⟩:=lS Em;obtain⟨ab,cb,eb⟩:=Rd.dk hB;obtain⟨ak,ck,ek⟩:=Rd.dk hK;subst eb ek;have R:=Av (d5 aI (d5 aH aw));clear aI aH aw;have H:Ae (GF w n x E O/\Rd w 1 (Z ab Bk cb) Bk (Ad As Bk)/\Bk.length<=1048576/\I5 w (Z ak Ks ck) Ks/\∀y∈Ks,y<n):=⟨hF,hB,ao,hK,au⟩
 have f:Ae (Gr w (Ac u (Ak #[hd,Z ab Bk cb,Z ak Ks ck] 85)) G n x bad I C/\Bx w u (Ac u (Ak #[hd,Z ab Bk cb,Z ak Ks ck] 85)) G x u hd (Z ab Bk cb) (Z ak Ks ck)):=⟨h.a7 (Aq _ _),AC.new _ _ _,h.e8.size,Nat.le_refl _, λb p _ _ _=>(Aq _ _).block b p⟩
 clear hF hB ao hK au h;go_enter func72,ntmps72;go_upto_region 1 with fail
 generalize u.heap.size=X at f⊢;refine Ax (λU=>Ae (Gr w U G n x bad I C/\Bx w u U G x X hd (Z ab Bk cb) (Z ak Ks ck))) f ?_
 clear f;rintro U f;obtain⟨p2,p3,p6,p7,p8,z8⟩:=f.1.cells;obtain⟨x0,x1,x2⟩:=f.2.cells;have aP:=f.1.e8.size;go_wp2_with (at_make;refine l8 _ rfl _ _ 67 rfl w 4 j0 false 1 underlying67 hj hy0 aX Af Af _ _ n rfl rfl rfl rfl (by rw[aY];omega) oX aP ?_;intro N ah aG;rw[UI]at ah);have ae:Ah U U N:=(kS _ _).grown aG lR (λk hk=>by cases hk);have d:Ae (Gr w N G n x bad I C/\Bx w u N G x X hd (Z ab Bk cb) (Z ak Ks ck)/\Ab N w 4 1 (sG U n n) n (bv (λj=>decide (j∈Ks.take 0)) n)):=⟨f.1.a7 ae,f.2.a7 ae,by rw[I7 (Q:= λ_=>false) (λi _=>sP)];exact ah⟩
 have aj:Ae ((u:Nat)<= ↑U):=by have:=f.2.gK.lt;have:=f.2.up;show(u:Nat)<= ↑U;omega
 clear ah aG ae p2 p3 p6 p7 p8 z8 x0 x1 x2 aP f;generalize U.heap.size=m at d aj⊢;go_loopw [8] (λi wr=>∃(k:Nat),k<= ↑Ks/\i=iZ k/\Ae (Gr w wr G n x bad I C/\Bx w u wr G x X hd (Z ab Bk cb) (Z ak Ks ck)/\Ab wr w 4 1 (sG m n n) n (bv (λj=>decide (j∈Ks.take k)) n))) (λi _=> ↑Ks-(intOf i).toNat)
 case atStart=>exact⟨0,oM,rfl,d⟩
 clear d;obtain⟨k,hk',rfl,d⟩:=hrel;obtain⟨x0,x1,x2⟩:=d.2.1.cells;by_cases hlt:k< ↑Ks
 . have hltI:(k:Int)<(Ks:Int):=oM;obtain⟨ga,oa,ea,_,B⟩:=H.2.2.2.1.at_ (an hlt);have e0:=Au d.1.e8 B;have hto:Ks[k]<n:=H.2.2.2.2 _ (mN hlt);have HZ:Ae (Ks[k]?=K Ks[k]):=an hlt;subst ea;clear B;generalize Ks[k]=z at hto e0 HZ;have htoI:(z:Int)<(n:Int):=oM;have c0:=lj d.2.2 z oM;rw[KX _ _ _ hto]at c0;have z0:=d.2.2.frozenAt z;have E2:Ae (Gr w (Aa wr ⟨m,z,M⟩ true) G n x bad I C/\Bx w u (Aa wr ⟨m,z,M⟩ true) G x X hd (Z ab Bk cb) (sO ga oa Ks ck)/\Ab (Aa wr ⟨m,z,M⟩ true) w 4 1 (sG m n n) n (bv (λj=>decide (j∈Ks.take (k+1))) n)):=by
    have g:=d.2.2;obtain⟨_,aZ,A⟩:=AD g;obtain⟨_,c2,e2⟩:=AD d.1.ia;obtain⟨_,c3,e3⟩:=AD d.1.cost;have e4:=d.1.gK;unfold AC at e4;refine⟨d.1.other (AD g).1 (λq=> ?_) (λq=> ?_) (λq=> ?_),d.2.1.row g dC (.inl aj),Nn g λj _=> ?_⟩
    . rw[q,e4]at A;cases A
    . rw[q,e2]at A;cases A
    . rw[q,e3]at A;cases A
    have:=Dh (y:=j) HZ;by_cases e:j=z
    . rw[kZ e,decide_eq_true (this.2 (.inr e))]
    rw[kP e];by_cases e2:j∈Ks.take k
    . rw[decide_eq_true e2,decide_eq_true (this.2 (.inl e2))]
    rw[lZ e2,lZ (λq=>(this.1 q).elim e2 e)]
   go_wp2_with fail;go_roundw;(case rel=>exact⟨k+1,oM,by go_num,E2⟩);exact oI
 go_wp2_with fail;have g:=d.2.2;rw[k8 (show ↑Ks<=k from oM)]at g
 refine(Na w wr G n x bad I C E O m n hd (λj=>decide (j∈Ks)) h0 hh d.1 H.1 g (λb p=>R.1 b (nB p.2)) R.2.1 R.2.2).mono ?_;rintro e F ⟨gB,bad2,L,rfl,hW,aA⟩;have s:=Av aA;have E2:Ae (Wy w wr F G n x bad2 I C m n (λj=>decide (j∈Ks)) gB L/\Bx w u F G x X hd (Z ab Bk cb) (Z ak Ks ck)):=by refine⟨hW,?_,d.2.1.lo,d.2.1.up, λb h1 h2 h3 h4=>by have:=d.2.1.gK.lt;have:=d.2.1.up;rw[hW.fr b oM h2];exact d.2.1.fr b h1 h2 h3 h4⟩;have q:=d.2.1.gK;have q2:=hW.fr X q.lt (d.2.1.ne d.1);unfold AC at q⊢;rw[q2,q]
 clear hW aA g d x0 x1 x2;clear hlt hk';go_wp2_with fail;have P:Ae (Rd F 1 (Z ab Bk cb) Bk (Ad As Bk)/\Bk.length<=1048576):=⟨Rd.a7 H.2.1 E2.1.gr.e8 lR,H.2.2.1⟩
 go_loopw [10,11,12,13,14,15,16] (λa o i _ _ _ _ wr=>∃(k:Nat) (a0 o0:Int),k<= ↑Ks/\a=iZ a0/\o=iZ o0/\i=iZ k/\wr=F/\Ae (Ew a0/\Ew o0/\Ck (λb=>cf L (jf I b)) (λb=>b∈Ks.take k/\(b:Int)∈Bk) a0/\Ck (λb=>cf L (jf I b)) (λb=>b∈Ks.take k/\∃y∈E b,y∉Ks) o0)) (λ_ _ i _ _ _ _ _=> ↑Ks-(intOf i).toNat)
 case atStart=>exact⟨0,0,0,oM,rfl,rfl,rfl,rfl,⟨oM,oM⟩,⟨oM,oM⟩,Ck.none (λb p=>by simp at p),Ck.none (λb p=>by simp at p)⟩
 obtain⟨k,a0,o0,hk',rfl,rfl,rfl,rfl,HA⟩:=hrel;obtain⟨x0,x1,x2⟩:=E2.2.cells;obtain⟨p2,p3,p6,p7,p8,z8⟩:=E2.1.gr.cells;by_cases hlt:k< ↑Ks
 . have hltI:(k:Int)<(Ks:Int):=oM;obtain⟨ga,oa,ea,_,B⟩:=H.2.2.2.1.at_ (an hlt);have e0:=Au E2.1.gr.e8 B;have hto:Ks[k]<n:=H.2.2.2.2 _ (mN hlt);have HZ:Ae (Ks[k]?=K Ks[k]):=an hlt;subst ea;clear B;generalize Ks[k]=z at hto e0 HZ;have htoI:(z:Int)<(n:Int):=oM;obtain⟨r,hr,aU,i0⟩:=E2.1.gr.iM hto;have bg:(r:Int)<(n:Int):=oM;obtain⟨c,aF,hc,b0,_⟩:=E2.1.at_ aU;(have HFz:Ae ((λb=>cf L (jf I b)) z=c):=by show cf L (jf I z)=c;rw[Ls hr];exact DL aF);obtain⟨ax,cx,am,aM⟩:=H.1.gr z hto;have g0:=Au E2.1.gr.e8 am;have HE:Ae (I5 wr (Z ax (E z).length cx) (E z)/\∀y∈E z,y<n):=⟨aM.a7 E2.1.gr.e8,H.1.eb z hto⟩
   have aS:=H.1.sz z;clear am aM hr aF;generalize aq:E z=eb at HE g0 aS;have HEb:=Av aq;clear aq;go_wp2_with fail;refine(Ep _ Bk (z:Int) wr P.2 P.1).mono ?_;rintro e u3 ⟨⟨bb,rfl,aJ⟩,rfl⟩;have HQ:=Av aJ;clear aJ;cases bb
   . have HA1:Ae (Ew a0/\Ck (λb=>cf L (jf I b)) (λb=>b∈Ks.take (k+1)/\(b:Int)∈Bk) a0):=⟨HA.1,HA.2.2.1.iff λb=>by
      rw[Dh HZ];constructor
      . rintro⟨e|rfl,h⟩
        . exact⟨e,h⟩
        exact absurd (HQ.2 h) sP
      rintro⟨e,h⟩;exact⟨.inl e,h⟩⟩
     exact Xz
   . have HM:Ae (Ck (λb=>cf L (jf I b)) (λb=>b∈Ks.take (k+1)/\(b:Int)∈Bk) (max a0 c)):=by
      rw[<-HFz];(refine HA.2.2.1.add λb=> ?_);rw[Dh HZ];constructor
      . rintro⟨e|e,h⟩
        . exact .inl ⟨e,h⟩
        exact .inr e
      rintro(⟨e,h⟩|rfl)
      . exact⟨.inl e,h⟩
      exact⟨.inr rfl,HQ.1 rfl⟩
     by_cases bf:c>a0
     . rw[show max a0 c=c from oM]at HM;have HA1:Ae (Ew c/\Ck (λb=>cf L (jf I b)) (λb=>b∈Ks.take (k+1)/\(b:Int)∈Bk) c):=⟨⟨by have:=HA.1.1;omega,hc.2⟩,HM⟩
       exact Xz
     rw[show max a0 c=a0 from oM]at HM;have HA1:Ae (Ew a0/\Ck (λb=>cf L (jf I b)) (λb=>b∈Ks.take (k+1)/\(b:Int)∈Bk) a0):=⟨HA.1,HM⟩
     exact Xz
 obtain⟨⟨a1,a2⟩,⟨o1,o2⟩,ma,mo⟩:=HA.o;obtain⟨t1,t2⟩:=ht;have HM:Ae (Ck (λb=>cf L (jf I b)) (λb=>b∈Ks/\(b:Int)∈Bk) a0/\Ck (λb=>cf L (jf I b)) (λb=>b∈Ks/\∃y∈E b,y∉Ks) o0):=by
  rw[k8 (show ↑Ks<=k from oM)]at ma mo
  exact⟨ma,mo⟩
 have T:Ae (∀c,cf L c<=4294967295):= λc=>by
  unfold cf;rw[kL];cases e:L[c]? with
  |none=>show(0:Int)<=_;omega
  |some y=>exact(E2.1.lb y (i7 e)).2
 clear P ma mo;by_cases l:4294967295<t*a0+o0;case pos=>
  have aE:a0>0:=by
   rcases Int.lt_or_le 0 a0 with e|e
   . exact e
   obtain rfl:a0=0:=oM;simp at l;omega
  have aQ:0<=4294967295 / a0:=Int.ediv_nonneg oM oM;have aR:4294967295 / a0<=4294967295:=Int.ediv_le_self _ oM;by_cases aW:t>4294967295 / a0
  . have E3:Ae (Gr w (Aa wr ⟨G,8,M⟩ true) G n x true I C/\Bx w u (Aa wr ⟨G,8,M⟩ true) G x X hd (Z ab Bk cb) (Z ak Ks ck)):=⟨E2.1.gr.im,E2.2.im E2.1.gr⟩
    have HT:Ae (Ew 0/\Wr E n Ks Bk I C hd t bad true 0):=⟨⟨oM,oM⟩,bad2,L,a0,o0,s.1,s.2,T,HM.1,HM.2,.inr ⟨rfl,l⟩⟩
    clear l;exact WC
  have D:t*a0<=4294967295:=by have h1:t<=4294967295 / a0:=oM;exact(Int.le_ediv_iff_mul_le oM).1 h1
  have h2:0<=t*a0:=Int.mul_nonneg t1 a1;have HT:Ae (Ew 0/\Wr E n Ks Bk I C hd t bad true 0):=⟨⟨oM,oM⟩,bad2,L,a0,o0,s.1,s.2,T,HM.1,HM.2,.inr ⟨rfl,l⟩⟩
  have HB:=Av l;clear l;go_wp2_with fail;refine(F6 G (t*a0) o0 _ wr ⟨h2,D⟩ ⟨o1,o2⟩ E2.1.gr.cells.2.2.2.2.1 E2.1.gr.cells.2.2.2.2.2).mono ?_;rintro e u4 ⟨tt,rfl,htt,hU⟩;rcases hU with⟨_,_,h3⟩|⟨rfl,rfl,_⟩
  . exact absurd h3 (by have:=HB.o;omega)
  have E3:Ae (Gr w (Aa wr ⟨G,8,M⟩ true) G n x true I C/\Bx w u (Aa wr ⟨G,8,M⟩ true) G x X hd (Z ab Bk cb) (Z ak Ks ck)):=⟨E2.1.gr.im,E2.2.im E2.1.gr⟩
  exact WC
 case neg=>
  have h2:0<=t*a0:=Int.mul_nonneg t1 a1;have D:t*a0<=4294967295:=oM;have HT:Ae (Ew (t*a0+o0)/\Wr E n Ks Bk I C hd t bad bad2 (t*a0+o0)):=⟨⟨oM,oM⟩,bad2,L,a0,o0,s.1,s.2,T,HM.1,HM.2,.inl ⟨rfl,rfl,oM⟩⟩
  have V:Ae (a0>0->¬t>4294967295 / a0):= λha h=>by have:=(Int.le_ediv_iff_mul_le ha).2 D;omega
  have HB:=Av l;clear l;by_cases aE:a0>0
  . have aQ:0<=4294967295 / a0:=Int.ediv_nonneg oM oM;have aR:4294967295 / a0<=4294967295:=Int.ediv_le_self _ oM;have aW:=V.o aE;clear V;go_wp2_with fail;refine(F6 G (t*a0) o0 _ wr ⟨h2,D⟩ ⟨o1,o2⟩ E2.1.gr.cells.2.2.2.2.1 E2.1.gr.cells.2.2.2.2.2).mono ?_;exact Ya
  have aT:a0=0:=oM;subst aT;simp only[Int.mul_zero]at HT HB h2 D;clear V;go_wp2_with fail;refine(F6 G 0 o0 _ wr ⟨oM,oM⟩ ⟨o1,o2⟩ E2.1.gr.cells.2.2.2.2.1 E2.1.gr.cells.2.2.2.2.2).mono ?_;exact Ya
end Go.Proofs.YtmalfecapdmdbaaGreat
