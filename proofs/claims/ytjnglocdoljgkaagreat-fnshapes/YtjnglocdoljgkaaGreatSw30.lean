import Derived.Test.YtjnglocdoljgkaaGreatSw21
namespace Go.Proofs.YtjnglocdoljgkaaGreat
open Go.ChangeShapes Go.WideShapes Go.ChangeAt Go.RowKit
set_option linter.unusedVariables false
open Go.Value renaming slice → Z
open Option renaming some → K,none → M
open Go renaming Value → J,World → Y,Calls → Ae,TypeId → Af
open Go.RowKit renaming Hid → Aa,Below → Ad
open Go.IntKind renaming i64 → Ab
set_option maxHeartbeats 8000000
set_option maxRecDepth 100000
variable {I:List Nat}{k y G n g X e B c:Nat}{w u f:Y}{x:GV}{bad:Bool}{C:List Int}{vk:J}
theorem WU:(nv I).set k (iZ (y:Int))=nv (I.set k y):=by unfold nv;rw[List.map_set]
theorem Gr.kA(h:Gr w u G n x bad I C)(k:Nat)(g:y<n):Gr w (u.setCell ⟨x.gi,k,M⟩ (iZ (y:Int))) G n x bad (I.set k y) C:=by
 have b:=(mq h.ig k (iZ (y:Int))).1;rw[WU]at b;have f:∀z∈I.set k y,z<n:= λz i=>by
  rcases m7 i with e|e
  . exact h.ib z e
  subst e;exact g
 exact{h with gR:=h.gR.other (a:=⟨x.gi,k,M⟩) (λe=>h.jh.1 e.symm) _,ig:=b,cost:=Ck h.cost h.ne.symm,gG:=h.gG.setCell (AD h.ig).1 _,il:=by rw[mU];exact h.il,ib:=f}
theorem Gr.ix(h:Gr w u G n x bad I C)(k:Nat){y:Int}(f:Md y):Gr w (u.setCell ⟨x.gc,k,M⟩ (iZ y)) G n x bad I (C.set k y):=by have b:=(mq h.cost k (iZ y)).1;rw[Nn]at b;exact{h with gR:=h.gR.other (a:=⟨x.gc,k,M⟩) (λe=>h.jh.2 e.symm) _,ig:=Ck h.ig h.ne,cost:=b,gG:=h.gG.setCell (AD h.cost).1 _,cl:=by rw[mU];exact h.cl,cb:=J9 h.cb f}
structure Bx(w u0 u:Y)(G:Nat)(x:GV)(X hd:Nat)(vb vk:J):Prop where
 gR:Ar u X #[iZ (hd:Int),vb,vk] 95
 lo: ↑w<=X
 up: ↑u0<=X
 fr:∀b,b< ↑u0->b≠G->b≠x.gi->b≠x.gc->u.heap[b]?=u0.heap[b]?
theorem Bx.bM{g:Y}{i:J}(h:Bx w g u G x X e i vk)(a:Ad u u f):Bx w g f G x X e i vk:=⟨h.gR.bM a,h.lo,h.up, λb h1 h2 j k=>by have:=h.gR.lt;have:=h.up;rw[a.block b oM];exact h.fr b h1 h2 j k⟩
theorem Bx.cells{e:Y}{a:Nat}{b:J}(h:Bx w e u G x X a b vk):u.cell? X=K (iZ (a:Int))/\u.cell? ⟨X,1,M⟩=K b/\u.cell? ⟨X,2,M⟩=K vk:=⟨by rw[h.gR.cell];rfl,by rw[h.gR.cell];rfl,by rw[h.gR.cell];rfl⟩
theorem Bx.row{j:Y}{l i:Nat}{e:Af}{xs:List J}{z p:J}(h:Bx w j u G x X l p vk)(D:u.ownsRow B e k (sG g n c) n xs)(C:e≠95)(A: ↑j<=g\/g=x.gi\/g=x.gc):Bx w j (u.setCell ⟨g,i,M⟩ z) G x X l p vk:=by
 refine⟨h.gR.other (a:=⟨g,i,M⟩) (λs=> ?_) _,h.lo,h.up, λb h1 h2 t y=> ?_⟩
 . obtain⟨_,F,f⟩:=AD D;have e3:=h.gR;unfold Ar at e3;have e4:X=g:=s;rw[<-e4,e3]at f;(injection f with f);(injection f with _ f);exact C f.symm
 rw[lZ u ⟨g,i,M⟩ b _ (by show b≠g;rcases A with q|q|q<;>omega)];exact h.fr b h1 h2 t y
theorem Bx.ne{i:Y}{f:Nat}{j:J}(h:Bx w i u G x X f j vk)(g:Gr w u G n x bad I C):X≠G:= λe=>by
 have a:=h.gR;have b:=g.gR;unfold Ar at a b;rw[e,b]at a;injection a with a
 injection a with _ a
 exact absurd a dC
theorem Bx.i9{g:J}(h:Bx w f u G x X e g vk)(k:Gr w u G n x bad I C):Bx w f (u.setCell ⟨G,8,M⟩ (.bool true)) G x X e g vk:=⟨h.gR.other (a:=⟨G,8,M⟩) (h.ne k) _,h.lo,h.up, λb h1 h2 i j=>by rw[lZ u ⟨G,8,M⟩ b _ h2];exact h.fr b h1 h2 i j⟩
theorem T9(n:Nat):(madeCells (Value.bool false).cells (n*1)).toList=bv (λ_=>false) n:=by rw[Dz,Hs]
theorem O8{P:Nat->Bool}{b:Bool}(h:u.ownsRow B 4 1 (sG g n c) n (bv P n)):(u.setCell ⟨g,k,M⟩ (.bool b)).ownsRow B 4 1 (sG g n c) n (bv (λj=>if j=k then b else P j) n):=by have:=(mq h k (.bool b)).1;rw[Th (Q:= λj=>if j=k then b else P j) (λj _=>rfl)]at this;exact this
theorem Uw{q:Prop}(h:q:=by
 obtain⟨ga,oa,ea,_,e0⟩:=H.o.2.2.2.1.at_ (an hlt);have hto:Ks[k]<n:=H.o.2.2.2.2 _ (mW hlt);subst ea;generalize Ks[k]=z at hto e0;have htoI:(z:Int)<(n:Int):=by omega
 have HC:Aa (∀(W:Y) (bd:Bool) (I':List Nat),Gr w W G n x bd I' C/\Bx w u W G x X hd (Z ab Bk cb) (sO ga oa Ks ck)->W.cell? ⟨G,6,M⟩=K (sG x.gi n x.ci)/\W.cell? ⟨X,2,M⟩=K (sO ga oa Ks ck)/\W.cell? ⟨ga,oa+k,M⟩=K (iZ (z:Int))/\W.cell? X=K (iZ (hd:Int))):= λW bd I' hW=>⟨hW.1.cells.2.2.1,hW.2.cells.2.2,Ak hW.1.gG e0,hW.2.cells.1⟩
 go_upto_region 30 with fail
 have ED:Aa (Gr w wr.drew G n x bd I2 C/\Bx w u wr.drew G x X hd (Z ab Bk cb) (sO ga oa Ks ck)):=⟨E5.o.1.bM (Aj _),E5.o.2.bM (Aj _)⟩
 refine wp_region_held_drew (S:= λW=>W.cell? ⟨G,6,M⟩=K (sG x.gi n x.ci)/\W.cell? ⟨X,2,M⟩=K (sO ga oa Ks ck)/\W.cell? ⟨ga,oa+k,M⟩=K (iZ (z:Int))/\W.cell? X=K (iZ (hd:Int))) (by kernel_rfl) (by exact HC.o _ _ _ ED.o) (λhHeld=> ?_)
 generalize wr.drew=UD at ED hHeld⊢;obtain⟨y0,_,_,i0⟩:=ED.o.1.iY hto;have z0:=ED.o.1.ig.frozenAt z;have EN:Aa (Gr w (UD.setCell ⟨x.gi,z,M⟩ (iZ (hd:Int))) G n x bd (I2.set z hd) C/\Bx w u (UD.setCell ⟨x.gi,z,M⟩ (iZ (hd:Int))) G x X hd (Z ab Bk cb) (sO ga oa Ks ck)):=⟨ED.o.1.kA z hh,ED.o.2.row ED.o.1.ig (by decide) (.inr (.inl rfl))⟩
 refine AE 0 ?_;refine AE 1 ?_;refine AE 2 ?_;refine AE 3 ?_;refine AE 4 ?_;refine AE 5 ?_;refine AE 6 ?_;refine AE 7 ?_;refine AE 8 ?_;refine AE 9 ?_;refine AE 10 ?_;refine AE 11 ?_;refine rdH 12 ?_;intro KC hKC;go_simp;refine hKC.o _ _ (by exact HC.o _ _ _ EN.o) (λhHeld=> ?_);refine wpAnyH_done (by kernel_rfl) ?_ _;generalize UD.setCell ⟨x.gi,z,M⟩ (iZ (hd:Int))=UE at EN⊢;go_wp2_with fail;go_roundw;case rel=>exact⟨k+1,by omega,by go_num,bd,_,EN.o⟩
 simp[intOf];omega):q:=h
theorem Uv{q:Prop}(h:q:=by
 rintro e u4 ⟨tt,rfl,htt,hU⟩;have E3:Aa (∃bd I',Gr w u4 G n x bd I' C/\Bx w u u4 G x X hd (Z ab Bk cb) (Z ak Ks ck)):=by
  rcases hU with rfl|rfl
  . exact⟨_,_,E2.o.1.gr,E2.o.2⟩
  exact⟨_,_,E2.o.1.gr.i9,E2.o.2.i9 E2.o.1.gr⟩
 go_wp2_with fail;go_loopw [18] (λi wr=>∃k:Nat,k<= ↑Ks/\i=iZ k/\Aa (∃bd I',Gr w wr G n x bd I' C/\Bx w u wr G x X hd (Z ab Bk cb) (Z ak Ks ck))) (λi _=> ↑Ks-(intOf i).toNat)
 case atStart=>exact⟨0,by omega,rfl,E3.o⟩
 obtain⟨k,hk',rfl,E4⟩:=hrel;obtain⟨bd,I2,hg4,hx4⟩:=E4.o;have E5:Aa (Gr w wr G n x bd I2 C/\Bx w u wr G x X hd (Z ab Bk cb) (Z ak Ks ck)):=⟨hg4,hx4⟩
 obtain⟨x0,x1,x2⟩:=E5.o.2.cells;by_cases hlt:k< ↑Ks
 . (have hltI:(k:Int)<(Ks:Int):=by omega);exact Uw
 have HC:Aa (∀(W:Y) (bd:Bool) (I':List Nat) (C:List Int),Gr w W G n x bd I' C/\Bx w u W G x X hd (Z ab Bk cb) (Z ak Ks ck)->W.cell? ⟨G,7,M⟩=K (sG x.gc n x.cc)/\W.cell? X=K (iZ (hd:Int))):= λW bd I' C hW=>⟨hW.1.cells.2.2.2.1,hW.2.cells.1⟩
 have hhI:(hd:Int)<(n:Int):=by omega
 go_upto_region 31 with fail
 have ED:Aa (Gr w wr.drew G n x bd I2 C/\Bx w u wr.drew G x X hd (Z ab Bk cb) (Z ak Ks ck)):=⟨E5.o.1.bM (Aj _),E5.o.2.bM (Aj _)⟩
 refine wp_region_held_drew (S:= λW=>W.cell? ⟨G,7,M⟩=K (sG x.gc n x.cc)/\W.cell? X=K (iZ (hd:Int))) (by kernel_rfl) (by exact HC.o _ _ _ _ ED.o) (λhHeld=> ?_)
 generalize wr.drew=UD at ED hHeld⊢;obtain⟨y0,_,_,i0⟩:=ED.o.1.iK hh;have z0:=ED.o.1.cost.frozenAt hd;have EN:Aa (Gr w (UD.setCell ⟨x.gc,hd,M⟩ (iZ tt)) G n x bd I2 (C.set hd tt)/\Bx w u (UD.setCell ⟨x.gc,hd,M⟩ (iZ tt)) G x X hd (Z ab Bk cb) (Z ak Ks ck)):=⟨ED.o.1.ix hd htt,ED.o.2.row ED.o.1.cost (by decide) (.inr (.inr rfl))⟩
 refine AE 0 ?_;refine AE 1 ?_;refine AE 2 ?_;refine AE 3 ?_;refine AE 4 ?_;refine AE 5 ?_;refine AE 6 ?_;refine AE 7 ?_;refine rdH 8 ?_;intro KC hKC;go_simp;refine hKC.o _ _ (by exact HC.o _ _ _ _ EN.o) (λhHeld=> ?_);refine wpAnyH_done (by kernel_rfl) ?_ _;refine oR (v:=.tuple #[]) (by kernel_rfl) rfl ?_;exact⟨rfl,bd,_,_,EN.o.1,EN.o.2.fr⟩):q:=h
theorem Q3{q:Prop}(h:q:=by
 go_roundw;case rel=>exact⟨q+1,o1,by omega,by trivial,by go_num,by trivial,HO⟩
 simp[intOf];omega):q:=h
theorem Ux{q:Prop}(h:q:=by
 go_roundw;case rel=>exact⟨q+1,c,by omega,by trivial,by go_num,by trivial,by have:=HO.o.1;omega,hc.2⟩
 simp[intOf];omega):q:=h
theorem Q2{q:Prop}(h:q:=by
 go_wp2_with fail;go_loopw [11,16] (λo j wr=>∃(q:Nat) (o0:Int),q<= ↑eb/\o=iZ o0/\j=iZ q/\wr=u3/\Aa (Md o0)) (λ_ j _=> ↑eb-(intOf j).toNat)
 case atStart=>exact⟨0,o0,by omega,rfl,rfl,rfl,HA.o.2⟩
 obtain⟨q,o1,hq,rfl,rfl,rfl,HO⟩:=hrel;by_cases hlq:q< ↑eb
 case neg=>
  go_wp2_with fail;go_roundw;case rel=>exact⟨k+1,a0,o1,by omega,by trivial,by trivial,by go_num,by trivial,⟨HA.o.1.1,HA.o.1.2⟩,HO.o⟩
  simp[intOf];omega
 have hlqI:(q:Int)<(eb:Int):=by omega
 obtain⟨gx,ox,ex,_,v0⟩:=HE.o.1.at_ (an hlq);have hto2:eb[q]<n:=HE.o.2 _ (mW hlq);subst ex;generalize eb[q]=y at hto2 v0;have hto2I:(y:Int)<(n:Int):=by omega
 have n1:=E2.o.1.jB hto2;cases hPy:P y
 case true=>rw[hPy]at n1;go_wp2_with fail;exact Q3
 rw[hPy]at n1;by_cases hco:c>o1
 . go_wp2_with fail;exact Ux
 go_wp2_with fail;go_roundw;case rel=>exact⟨q+1,o1,by omega,by trivial,by go_num,by trivial,HO⟩
 simp[intOf];omega):q:=h
theorem KY(w u:Y)(G n:Nat)(x:GV)(bad:Bool)(I:List Nat)(C:List Int)(E:Nat->List Nat)(O:List Nat)(hd:Nat)(vb vk:J)(Bk:List Int)(Ks:List Nat)(t:Int)(h0:n<=1048576)(hh:hd<n)(ht:Md t)(h:Gr w u G n x bad I C)(hF:GF w n x E O)(R:Rd w 1 vb Bk (Bk.flatMap Ah))(am:Bk.length<=1048576)(T:Iu w vk Ks)(aP:Ks.length<=1048576)(aq:∀y∈Ks,y<n):
 Ae Tryz.prog 148 #[.pointer G,.agg #[iZ (hd:Int),vb,vk],iZ t] u λe u'=>e=.returned (.tuple #[])/\∃ae I' C',Gr w u' G n x ae I' C'/\∀b,b< ↑u->b≠G->b≠x.gi->b≠x.gc->u'.heap[b]?=u.heap[b]?:=by
 obtain⟨j0,hj,aF,aG,aH⟩:=lU DL;obtain⟨ab,cb,eb⟩:=Rd.fu R;obtain⟨ak,ck,ek⟩:=Rd.fu T;subst eb ek;have H:Aa (GF w n x E O/\Rd w 1 (Z ab Bk cb) Bk (Bk.flatMap Ah)/\Bk.length<=1048576/\Iu w (Z ak Ks ck) Ks/\∀y∈Ks,y<n):=⟨hF,R,am,T,aq⟩
 have g:Aa (Gr w (u.alloc (.cells #[iZ (hd:Int),Z ab Bk cb,Z ak Ks ck] 95)) G n x bad I C/\Bx w u (u.alloc (.cells #[iZ (hd:Int),Z ab Bk cb,Z ak Ks ck] 95)) G x u hd (Z ab Bk cb) (Z ak Ks ck)):=⟨h.bM (Ag _ _),Ar.new _ _ _,h.gG.size,Nat.le_refl _, λb hb _ _ _=>(Ag _ _).block b hb⟩
 go_enter Tryz.func148,Tryz.ntmps148;go_upto_region 1 with fail
 generalize u.heap.size=X at g⊢;refine An (λU=>Aa (Gr w U G n x bad I C/\Bx w u U G x X hd (Z ab Bk cb) (Z ak Ks ck))) g ?_
 rintro U g;obtain⟨p2,p3,p6,p7,p8,z8⟩:=g.o.1.cells;obtain⟨x0,x1,x2⟩:=g.o.2.cells;have aE:=g.o.1.gG.size;go_wp2_with (at_make;refine mX _ rfl _ _ 56 rfl w 4 j0 (.bool false) 1 Tryz.underlying56 hj aF aG Ab Ab _ _ n rfl rfl rfl rfl (by rw[aH];omega) oX aE ?_;intro B hown hgrow;rw[T9]at hown);have a8:Ad U U B:=(lQ _ _).grown hgrow lR (λk hk=>by cases hk);have f:Aa (Gr w B G n x bad I C/\Bx w u B G x X hd (Z ab Bk cb) (Z ak Ks ck)/\∃P,B.ownsRow w 4 1 (sG U n n) n (bv P n)):=⟨g.o.1.bM a8,g.o.2.bM a8,_,hown⟩
 have N:Aa ((u:Nat)<= ↑U):=by have:=g.o.2.gR.lt;have:=g.o.2.up;show(u:Nat)<= ↑U;omega
 generalize U.heap.size=p at f N⊢;go_loopw [8] (λi wr=>∃(k:Nat),k<= ↑Ks/\i=iZ k/\Aa (Gr w wr G n x bad I C/\Bx w u wr G x X hd (Z ab Bk cb) (Z ak Ks ck)/\∃P,wr.ownsRow w 4 1 (sG p n n) n (bv P n))) (λi _=> ↑Ks-(intOf i).toNat)
 case atStart=>exact⟨0,oM,rfl,f⟩
 obtain⟨k,hk',rfl,f⟩:=hrel;obtain⟨x0,x1,x2⟩:=f.o.2.1.cells;by_cases hlt:k< ↑Ks
 . have hltI:(k:Int)<(Ks:Int):=oM;obtain⟨P,l⟩:=f.o.2.2;obtain⟨ga,oa,ea,_,D⟩:=H.o.2.2.2.1.at_ (an hlt);have e0:=Ak f.o.1.gG D;have hto:Ks[k]<n:=H.o.2.2.2.2 _ (mW hlt);subst ea;generalize Ks[k]=z at hto e0;have htoI:(z:Int)<(n:Int):=oM;have c0:=lV l z oM;rw[Kw _ _ _ hto]at c0;have z0:=l.frozenAt z;have E2:Aa (Gr w (wr.setCell ⟨p,z,M⟩ (.bool true)) G n x bad I C/\Bx w u (wr.setCell ⟨p,z,M⟩ (.bool true)) G x X hd (Z ab Bk cb) (sO ga oa Ks ck)/\∃P,(wr.setCell ⟨p,z,M⟩ (.bool true)).ownsRow w 4 1 (sG p n n) n (bv P n)):=by
    obtain⟨_,aI,s⟩:=AD l;obtain⟨_,c2,e2⟩:=AD f.o.1.ig;obtain⟨_,c3,e3⟩:=AD f.o.1.cost;have e4:=f.o.1.gR;unfold Ar at e4;refine⟨f.o.1.other (AD l).1 (λq=> ?_) (λq=> ?_) (λq=> ?_),f.o.2.1.row l dC (.inl N.o),_,O8 l⟩
    . rw[q,e4]at s;cases s
    . rw[q,e2]at s;cases s
    rw[q,e3]at s;cases s
   go_wp2_with fail;go_roundw;(case rel=>exact⟨k+1,oM,by go_num,E2⟩);exact oI
 go_wp2_with fail;obtain⟨P,l⟩:=f.o.2.2;refine(KZ w wr G n x bad I C E O p n hd P h0 hh f.o.1 H.o.1 l).mono ?_;rintro e A ⟨gB,ah,L,rfl,hW⟩;have E2:Aa (Wy w wr A G n x ah I C p n P gB L/\Bx w u A G x X hd (Z ab Bk cb) (Z ak Ks ck)):=by refine⟨hW,?_,f.o.2.1.lo,f.o.2.1.up, λb h1 h2 h3 h4=>by have:=f.o.2.1.gR.lt;have:=f.o.2.1.up;rw[hW.fr b oM h2];exact f.o.2.1.fr b h1 h2 h3 h4⟩;have q:=f.o.2.1.gR;have q2:=hW.fr X q.lt (f.o.2.1.ne f.o.1);unfold Ar at q⊢;rw[q2,q]
 go_wp2_with fail;have F:Aa (Rd A 1 (Z ab Bk cb) Bk (Bk.flatMap Ah)/\Bk.length<=1048576):=⟨Rd.bM H.o.2.1 E2.o.1.gr.gG lR,H.o.2.2.1⟩
 go_loopw [10,11,12,13,14,15,16] (λa o i _ _ _ _ wr=>∃(k:Nat) (a0 o0:Int),k<= ↑Ks/\a=iZ a0/\o=iZ o0/\i=iZ k/\wr=A/\Aa (Md a0/\Md o0)) (λ_ _ i _ _ _ _ _=> ↑Ks-(intOf i).toNat)
 case atStart=>exact⟨0,0,0,oM,rfl,rfl,rfl,rfl,⟨oM,oM⟩,oM,oM⟩
 obtain⟨k,a0,o0,hk',rfl,rfl,rfl,rfl,HA⟩:=hrel;obtain⟨x0,x1,x2⟩:=E2.o.2.cells;obtain⟨p2,p3,p6,p7,p8,z8⟩:=E2.o.1.gr.cells;by_cases hlt:k< ↑Ks
 . have hltI:(k:Int)<(Ks:Int):=oM;obtain⟨ga,oa,ea,_,D⟩:=H.o.2.2.2.1.at_ (an hlt);have e0:=Ak E2.o.1.gr.gG D;have hto:Ks[k]<n:=H.o.2.2.2.2 _ (mW hlt);subst ea;generalize Ks[k]=z at hto e0;have htoI:(z:Int)<(n:Int):=oM;obtain⟨r,hr,aA,i0⟩:=E2.o.1.gr.iY hto;have aS:(r:Int)<(n:Int):=oM;obtain⟨c,_,hc,b0,_⟩:=E2.o.1.at_ aA;obtain⟨ax,cx,aj,aD⟩:=H.o.1.gr z hto;have g0:=Ak E2.o.1.gr.gG aj;have HE:Aa (Iu wr (Z ax (E z).length cx) (E z)/\∀y∈E z,y<n):=⟨aD.bM E2.o.1.gr.gG,H.o.1.eb z hto⟩
   have ao:=H.o.1.sz z;generalize E z=eb at HE g0 ao;go_wp2_with fail;refine(DO _ Bk (z:Int) wr F.o.2 F.o.1).mono ?_;rintro e u3 ⟨⟨Q,rfl,aw⟩,rfl⟩;clear aw;by_cases aQ:c>a0
   . cases Q
     . (skip);exact Q2
     (skip);go_wp2_with fail;go_loopw [11,16] (λo j wr=>∃(q:Nat) (o0:Int),q<= ↑eb/\o=iZ o0/\j=iZ q/\wr=u3/\Aa (Md o0)) (λ_ j _=> ↑eb-(intOf j).toNat)
     (case atStart=>exact⟨0,o0,oM,rfl,rfl,rfl,HA.o.2⟩);obtain⟨q,o1,hq,rfl,rfl,rfl,HO⟩:=hrel;by_cases hlq:q< ↑eb
     (case neg=>go_wp2_with fail;go_roundw;(case rel=>exact⟨k+1,c,o1,oM,by trivial,by trivial,by go_num,by trivial,⟨by have:=HA.o.1.1;omega,hc.2⟩,HO.o⟩);exact oI);have hlqI:(q:Int)<(eb:Int):=oM;obtain⟨gx,ox,ex,_,v0⟩:=HE.o.1.at_ (an hlq);have hto2:eb[q]<n:=HE.o.2 _ (mW hlq);subst ex;generalize eb[q]=y at hto2 v0;have hto2I:(y:Int)<(n:Int):=oM;have n1:=E2.o.1.jB hto2;(cases hPy:P y);(case true=>rw[hPy]at n1;go_wp2_with fail;exact Q3);rw[hPy]at n1;by_cases hco:c>o1
     . go_wp2_with fail;exact Ux
     go_wp2_with fail;exact Q3
   cases Q
   . (skip);exact Q2
   (skip);exact Q2
 obtain⟨⟨a1,a2⟩,⟨o1,o2⟩⟩:=HA.o;obtain⟨t1,t2⟩:=ht;by_cases au:a0>0;case neg=>obtain rfl:a0=0:=oM;go_wp2_with fail;refine(F7 G 0 o0 _ wr ⟨oM,oM⟩ ⟨o1,o2⟩ E2.o.1.gr.cells.2.2.2.2.1 E2.o.1.gr.cells.2.2.2.2.2).mono ?_;exact Uv
 have aJ:0<=4294967295 / a0:=Int.ediv_nonneg oM oM;have aM:4294967295 / a0<=4294967295:=Int.ediv_le_self _ oM;by_cases aT:t>4294967295 / a0
 . have E3:Aa (Gr w (wr.setCell ⟨G,8,M⟩ (.bool true)) G n x true I C/\Bx w u (wr.setCell ⟨G,8,M⟩ (.bool true)) G x X hd (Z ab Bk cb) (Z ak Ks ck)):=⟨E2.o.1.gr.i9,E2.o.2.i9 E2.o.1.gr⟩
   go_wp2_with fail;go_loopw [18] (λi wr=>∃k:Nat,k<= ↑Ks/\i=iZ k/\Aa (∃bd I',Gr w wr G n x bd I' C/\Bx w u wr G x X hd (Z ab Bk cb) (Z ak Ks ck))) (λi _=> ↑Ks-(intOf i).toNat)
   (case atStart=>exact⟨0,oM,rfl,true,_,E3.o⟩);obtain⟨k,hk',rfl,E4⟩:=hrel;obtain⟨bd,I2,hg4,hx4⟩:=E4.o;have E5:Aa (Gr w wr G n x bd I2 C/\Bx w u wr G x X hd (Z ab Bk cb) (Z ak Ks ck)):=⟨hg4,hx4⟩
   obtain⟨x0,x1,x2⟩:=E5.o.2.cells;by_cases hlt:k< ↑Ks
   . have hltI:(k:Int)<(Ks:Int):=oM;exact Uw
   have HC:Aa (∀(W:Y) (bd:Bool) (I':List Nat) (C:List Int),Gr w W G n x bd I' C/\Bx w u W G x X hd (Z ab Bk cb) (Z ak Ks ck)->W.cell? ⟨G,7,M⟩=K (sG x.gc n x.cc)/\W.cell? X=K (iZ (hd:Int))):= λW bd I' C hW=>⟨hW.1.cells.2.2.2.1,hW.2.cells.1⟩
   have hhI:(hd:Int)<(n:Int):=oM;(go_upto_region 31 with fail);have ED:Aa (Gr w wr.drew G n x bd I2 C/\Bx w u wr.drew G x X hd (Z ab Bk cb) (Z ak Ks ck)):=⟨E5.o.1.bM (Aj _),E5.o.2.bM (Aj _)⟩
   refine wp_region_held_drew (S:= λW=>W.cell? ⟨G,7,M⟩=K (sG x.gc n x.cc)/\W.cell? X=K (iZ (hd:Int))) kR (by exact HC.o _ _ _ _ ED.o) (λhHeld=> ?_)
   generalize wr.drew=UD at ED hHeld⊢;obtain⟨y0,_,_,i0⟩:=ED.o.1.iK hh;have z0:=ED.o.1.cost.frozenAt hd;have EN:Aa (Gr w (UD.setCell ⟨x.gc,hd,M⟩ (iZ 0)) G n x bd I2 (C.set hd 0)/\Bx w u (UD.setCell ⟨x.gc,hd,M⟩ (iZ 0)) G x X hd (Z ab Bk cb) (Z ak Ks ck)):=⟨ED.o.1.ix hd ⟨oM,oM⟩,ED.o.2.row ED.o.1.cost dC (.inr (.inr rfl))⟩
   refine AE 0 ?_;refine AE 1 ?_;refine AE 2 ?_;refine AE 3 ?_;refine AE 4 ?_;refine AE 5 ?_;refine AE 6 ?_;refine AE 7 ?_;refine rdH 8 ?_;intro KC hKC;go_simp;refine hKC.o _ _ (by exact HC.o _ _ _ _ EN.o) (λhHeld=> ?_);refine wpAnyH_done kR ?_ _;refine oR (v:=.tuple #[]) kR rfl ?_;exact⟨rfl,bd,_,_,EN.o.1,EN.o.2.fr⟩
 have hm:t*a0<=4294967295:=(Int.le_ediv_iff_mul_le au).1 oM;have aR:0<=t*a0:=Int.mul_nonneg t1 oM;go_wp2_with fail;refine(F7 G (t*a0) o0 _ wr ⟨oM,oM⟩ ⟨o1,o2⟩ E2.o.1.gr.cells.2.2.2.2.1 E2.o.1.gr.cells.2.2.2.2.2).mono ?_;exact Uv
end Go.Proofs.YtjnglocdoljgkaaGreat
