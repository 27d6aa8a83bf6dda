import Derived.Test.YtjcamlobelcepaaGreatDoorCt38
import Derived.Test.YtjcamlobelcepaaGreatDoorCt39
namespace Go.Proofs.YtjcamlobelcepaaGreatDoor
open Go.ChangeShapes Go.WideShapes Go.ChangeAt Go.RowKit
set_option linter.unusedVariables false
set_option maxHeartbeats 8000000
set_option maxRecDepth 100000
def Rw(zs:List Int)(w:World)(e:Ending)(w':World):Prop:=∃(c:Int) (v:VP) (F:List (List Int×Value)) (cs:List MC) (G:List (MF×VF)) (ts:List MT),e=.returned (.agg #[iZ c,v.r,v.k,v.f,v.t])/\CI w' w.heap.size (Ai v F cs G ts [])/\MP.small ⟨F.map Prod.fst,cs,G.map Prod.fst,ts⟩/\Ff zs c ⟨F.map Prod.fst,cs,G.map Prod.fst,ts⟩/\Below w.heap.size w w'
theorem JH(a:Option Addr)(L c:Nat)(zs:List Int)(w:World)(hL:L<=1048576)(hc:L<=c)(ht:Dq w)(hev:CY w)(h:Dp w (.slice a L c) L (zs.map (Value.int .u8)))(hz:DC zs):
 Calls Tryz.prog 6 #[.slice a L c] w (Rw zs w):=by
 have D0:Hid (Dw w (w.alloc (.cells #[iZ 0,DD,DD,DD,DD] 32)) (iZ 0) DD DD DD DD):=⟨Ap.new _ _ _,Aa _ _⟩;have H:=Af (aG h (aG hz (aG ht hev)));clear h hz ht hev;go_enter Tryz.func6,Tryz.ntmps6;go_upto_region 1 with fail
 refine An (fun u=>Hid (Dw w u (iZ 0) DD DD DD DD)) D0 ?_;clear D0;intro u0 D0;have HB0:=D0.o.bel;go_wp2_with fail
 refine(Jj a L c zs u0 hL hc (fun j hj=>by rw[HB0.cell (aD (H.o.2.2.1 j hj))];exact H.o.2.2.1 j hj) (H.o.1.keep HB0) H.o.2.1).mono ?_;rintro e u1 ⟨cd,v,F,cs,G,ts,rfl,hdec,hsep,hsm,hbel⟩;obtain⟨a1,d1,a2,d2,a3,d3,a4,d4,rfl⟩:=EY hsep;have hR:w.heap.size<u0.heap.size:=D0.o.blk.lt;have D1:=Af (D0.o.keep hbel);have HSP:=Af hsep;have HDC:=Af (aG hdec hsm);clear hsep hdec hsm hbel D0 HB0;go_upto_region 2 with fail
 refine An (fun u=>Hid (Dw w u (iZ 0) DD DD DD DD/\CI u u0.heap.size (Ai ⟨.slice a1 F.length d1,.slice a2 cs.length d2,.slice a3 G.length d3,.slice a4 ts.length d4⟩ F cs G ts [])/\Ap u u1.heap.size #[.slice a1 F.length d1,.slice a2 cs.length d2,.slice a3 G.length d3,.slice a4 ts.length d4] 28)) ⟨D1.o.keep (Aa _ _),HSP.o.keep (Aa _ _),Ap.new _ _ _⟩ ?_
 clear D1 HSP;generalize u1.heap.size=Y;intro u2 E2;by_cases hcd:cd=0
 . subst hcd
   have HD2:=Af E2.o.1;obtain⟨⟨q0,q1,q2,q3,q4⟩,f0,f1,f2,f3,f4⟩:=E2.o.1.cells;have y0:u2.cell? ⟨Y,0,none⟩=some (.slice a1 F.length d1):=E2.o.2.2.cell 0;have y1:u2.cell? ⟨Y,1,none⟩=some (.slice a2 cs.length d2):=E2.o.2.2.cell 1;have y2:u2.cell? ⟨Y,2,none⟩=some (.slice a3 G.length d3):=E2.o.2.2.cell 2;have y3:u2.cell? ⟨Y,3,none⟩=some (.slice a4 ts.length d4):=E2.o.2.2.cell 3;rw[show FT 0=.nilIface from rfl];go_wp2
   have HF:=Af (HD2.o.set (iZ 0) (.slice a1 F.length d1) (.slice a2 cs.length d2) (.slice a3 G.length d3) (.slice a4 ts.length d4));have HPF:=Af (E2.o.2.1.five (R:=w.heap.size) (by omega) (iZ 0) (.slice a1 F.length d1) (.slice a2 cs.length d2) (.slice a3 G.length d3) (.slice a4 ts.length d4));generalize ((((u2.setCell ⟨w.heap.size,0,none⟩ (iZ 0)).setCell ⟨w.heap.size,1,none⟩ (.slice a1 F.length d1)).setCell ⟨w.heap.size,2,none⟩ (.slice a2 cs.length d2)).setCell ⟨w.heap.size,3,none⟩ (.slice a3 G.length d3)).setCell ⟨w.heap.size,4,none⟩ (.slice a4 ts.length d4)=WF at HF HPF⊢;obtain⟨⟨r0,r1,r2,r3,r4⟩,-⟩:=HF.o.cells;exact aW (v:=.agg #[iZ 0,.slice a1 F.length d1,.slice a2 cs.length d2,.slice a3 G.length d3,.slice a4 ts.length d4]) (by simp[results,Tryz.results6,go_sem,r0,r1,r2,r3,r4]) rfl ⟨0,⟨.slice a1 F.length d1,.slice a2 cs.length d2,.slice a3 G.length d3,.slice a4 ts.length d4⟩,F,cs,G,ts,rfl,HPF.o.base (by omega),HDC.o.2,by have:=HDC.o.1;simpa using this,HF.o.bel⟩
 . have HDN:Hid (Ff zs cd Nm):=by have:=HDC.o.1;rwa [bX hcd]at this
   have HEV:Hid (CY u2):=by
    have:=H.o.2.2.2;unfold CY at*;show _=_;rw[E2.o.1.bel.cell (aD this)];exact this
   have HFN:Hid (Calls Tryz.prog 24 #[.iface 90 (iZ cd)] u2 fun e w'=>e=.returned (iZ cd)/\Below u2.heap.size u2 w'):=by
    have:=FU cd u2 HEV.o;rw[show FT cd=.iface 90 (iZ cd)from bX hcd]at this;exact this
   rw[show FT cd=.iface 90 (iZ cd)from bX hcd];go_wp2_with fail
   refine HFN.o.mono ?_;rintro e u3 ⟨rfl,hb⟩;have HD3:=Af (E2.o.1.keep hb);clear hb HFN HEV E2;obtain⟨⟨q0,q1,q2,q3,q4⟩,f0,f1,f2,f3,f4⟩:=HD3.o.cells;go_wp2
   have HF:=Af (HD3.o.set (iZ cd) DD DD DD DD);generalize ((((u3.setCell ⟨w.heap.size,0,none⟩ (iZ cd)).setCell ⟨w.heap.size,1,none⟩ DD).setCell ⟨w.heap.size,2,none⟩ DD).setCell ⟨w.heap.size,3,none⟩ DD).setCell ⟨w.heap.size,4,none⟩ DD=WF at HF⊢;obtain⟨⟨r0,r1,r2,r3,r4⟩,-⟩:=HF.o.cells;exact aW (v:=.agg #[iZ cd,DD,DD,DD,DD]) (by simp[results,Tryz.results6,go_sem,r0,r1,r2,r3,r4]) rfl ⟨cd,(⟨sN,sN,sN,sN⟩:VP),[],[],[],[],rfl,Pa _ _,Ll,HDN.o,HF.o.bel⟩
theorem RV{w:World}{xs:List MI}{r:IL}{vb vo vi vl:Value}(h:BO xs r)(h0:r.code=0)(hr:Fu w vb vo vi vl r):∃gb ob cb go oo co E O,vb=sO gb ob r.blocks.length cb/\vo=sO go oo r.blocks.length co/\0<r.blocks.length/\∀x:GV,x.gb=gb->x.ob=ob->x.go=go->x.oo=oo->GF w r.blocks.length x E O:=by
 cases h with
 |none _=>cases h0
 |off _ _ _=>cases h0
 |lost _ _ _ _ _ _ _ _=>cases h0
 |two _ _ _ _ _ _ _ _=>cases h0
 | @good x S O D L I g x1 o1 v1 s1 d1 b1 i1 l1=>
   have hn:=GG g;have hE:∀b,b<(AE xs).length->∀y∈nx (AE xs) b,y<(AE xs).length:=OV g;obtain⟨hP,hnd,hOn,hOm,_⟩:=EO hn hE v1 s1;obtain⟨gb,ob,cb,e1,hgr,_⟩:=Jt.graph g hr.blocks
   have ho:KP w vo O.reverse:=by
    have:=hr.order;unfold KP;rw[Ij];simp only[CM]at this;exact this
   obtain⟨a,c,e2⟩:=Rd.is_slice ho;subst e2;obtain⟨go,oo,e3,_,hoc⟩:=ho.all (by rw[dF,hOn];exact hn);subst e3;refine⟨gb,ob,cb,go,oo,c,nx (AE xs),O.reverse,e1,by rw[dF,hOn],hn,fun x q1 q2 q3 q4=> ?_⟩;subst q1 q2 q3 q4;exact⟨hgr,hoc,by rw[dF,hOn],fun y hy=>(hOm y).1 (eF.1 hy),hE,J4 _ (GO xs)⟩
structure Gp(w u:World)(G:Nat)(fc fa:Int)(vb vo vi vl vI vC:Value)(bad:Bool)(I:List Nat)(C:List Int):Prop where
 blk:Ap u G #[iZ fc,iZ fa,vb,vo,vi,vl,vI,vC,.bool bad] 223
 lo:w.heap.size<=G
 is_:u.ownsRow w.heap.size 2 1 vI I.length (nv I)
 cost:u.ownsRow w.heap.size 2 1 vC C.length (C.flatMap Ac)
 ne:∀b,vI.ownBlock=some b->vC.ownBlock=some b->False
 bel:Below w.heap.size w u
 cb:∀y∈C,Kd y
section
variable {w u u':World} {G:Nat} {fc fa:Int} {vb vo vi vl vI vC:Value} {bad:Bool} {I:List Nat} {C:List Int}
theorem Gp.keep(h:Gp w u G fc fa vb vo vi vl vI vC bad I C)(hb:Below u.heap.size u u'):Gp w u' G fc fa vb vo vi vl vI vC bad I C:={h with blk:=h.blk.keep hb,is_:=Ah h.is_ hb lR,cost:=Ah h.cost hb lR,bel:=Ab h.bel lR hb}
theorem Gp.bad_(h:Gp w u G fc fa vb vo vi vl vI vC bad I C):Gp w (u.setCell ⟨G,8,none⟩ (.bool true)) G fc fa vb vo vi vl vI vC true I C:=
 {h with blk:=by have:=h.blk.set 8 (.bool true);simpa using this,is_:=aN h.is_ (a:=⟨G,8,none⟩) (fun q=>Bn h.is_ h.blk (by decide) _ q rfl) _,cost:=aN h.cost (a:=⟨G,8,none⟩) (fun q=>Bn h.cost h.blk (by decide) _ q rfl) _,bel:=h.bel.setCell h.lo _}
theorem Gp.cells(h:Gp w u G fc fa vb vo vi vl vI vC bad I C):u.cell? ⟨G,6,none⟩=some vI/\u.cell? ⟨G,7,none⟩=some vC/\u.cell? ⟨G,8,none⟩=some (.bool bad)/\∀i,u.frozen? ⟨G,i,none⟩=false:=
 ⟨by rw[h.blk.cell];rfl,by rw[h.blk.cell];rfl,by rw[h.blk.cell];rfl,h.blk.frozen⟩
theorem Eg{B k n:Nat}{e:TypeId}{s:Value}{xs:List Value}{o:Option Nat}(h:u.ownsRow B e k s n xs)(hg:u.grownBy u' o)(hne:∀b,s.ownBlock=some b->some b≠o):u'.ownsRow B e k s n xs:=by
 refine⟨h.1,?_⟩;rcases h.2 with h|⟨g,cap,cur,e1,hb1,hgg,hr⟩
 . exact .inl h
 . refine .inr ⟨g,cap,cur,e1,hb1,?_,hr⟩
   rw[hg.block g (an.1 hgg).1 (hne g (by rw[e1];rfl))];exact hgg
theorem Jo{B k n b:Nat}{e:TypeId}{s:Value}{xs:List Value}(h:u.ownsRow B e k s n xs)(hb:s.ownBlock=some b):b<u.heap.size:=(h.lt b hb).2
theorem Gp.push_I(h:Gp w u G fc fa vb vo vi vl vI vC bad I C)(b:Nat)(V:Value)(ho:u'.ownsRow w.heap.size 2 1 V (I.length+1) (nv I++[iZ (b:Int)]))(hg:u.grownBy u' vI.ownBlock)(hat:V.ownBlock=vI.ownBlock\/V.ownBlock=some u.heap.size):Gp w (u'.setCell ⟨G,6,none⟩ V) G fc fa vb vo vi vl V vC bad (I++[b]) C/\u'.cell? ⟨G,6,none⟩=some vI/\u'.frozen? ⟨G,6,none⟩=false:=by
 have hb':Ap u' G _ _:=h.blk.grown hg h.is_ (by decide);have hc':u'.ownsRow w.heap.size 2 1 vC C.length (C.flatMap Ac):=Eg h.cost hg (fun b hb q=>h.ne b q.symm hb);refine⟨⟨by have:=hb'.set 6 V;simpa using this,h.lo,?_,aN hc' (a:=⟨G,6,none⟩) (fun q=>Bn hc' hb' (by decide) _ q rfl) _,fun b h1 h2=> ?_,((h.bel.grown hg h.bel.size (fun j hj=>(h.is_.lt j hj).1)).setCell h.lo _),h.cb⟩,by rw[hb'.cell];rfl,hb'.frozen 6⟩
 . have:=aN ho (a:=⟨G,6,none⟩) (fun q=>Bn ho hb' (by decide) _ q rfl) V
   rw[aH,aP,IE];exact this
 . rcases hat with e|e
   . exact h.ne b (e▸h1) h2
   . rw[e]at h1
     have:=Jo h.cost h2;simp only[aM]at h1;omega
theorem Gp.push_C(h:Gp w u G fc fa vb vo vi vl vI vC bad I C){c:Int}(hc:Kd c)(V:Value)(ho:u'.ownsRow w.heap.size 2 1 V (C.length+1) (C.flatMap Ac++[iZ c]))(hg:u.grownBy u' vC.ownBlock)(hat:V.ownBlock=vC.ownBlock\/V.ownBlock=some u.heap.size):Gp w (u'.setCell ⟨G,7,none⟩ V) G fc fa vb vo vi vl vI V bad I (C++[c])/\u'.cell? ⟨G,7,none⟩=some vC/\u'.frozen? ⟨G,7,none⟩=false:=by
 have hb':Ap u' G _ _:=h.blk.grown hg h.cost (by decide);have hc':u'.ownsRow w.heap.size 2 1 vI I.length (nv I):=Eg h.is_ hg (fun b hb q=>h.ne b hb q.symm);refine⟨⟨by have:=hb'.set 7 V;simpa using this,h.lo,aN hc' (a:=⟨G,7,none⟩) (fun q=>Bn hc' hb' (by decide) _ q rfl) _,?_,fun b h1 h2=> ?_,((h.bel.grown hg h.bel.size (fun j hj=>(h.cost.lt j hj).1)).setCell h.lo _),fun y hy=> ?_⟩,by rw[hb'.cell];rfl,hb'.frozen 7⟩
 . have:=aN ho (a:=⟨G,7,none⟩) (fun q=>Bn ho hb' (by decide) _ q rfl) V
   rw[aH,aP,a8];exact this
 . rcases hat with e|e
   . exact h.ne b h1 (e▸h2)
   . rw[e]at h2
     have:=Jo h.is_ h1;simp only[aM]at h2;omega
 . rcases ah.1 hy with e|e
   . exact h.cb y e
   . rw[bO.1 e]
     exact hc
theorem Gp.gr{n gb ob cb go oo co:Nat}(h:Gp w u G fc fa (sO gb ob n cb) (sO go oo n co) vi vl vI vC bad (List.range n) C)(hl:C.length=n)(hn:0<n):∃gi ci gc cc,Gr w u G n ⟨fc,fa,gb,ob,cb,go,oo,co,vi,vl,gi,ci,gc,cc⟩ bad (List.range n) C:=by
 have h1:=h.is_;have h2:=h.cost;rw[br]at h1;rw[hl]at h2;rcases Ci h1 with⟨_,e⟩|⟨gi,ci,e1⟩
 . omega
 rcases Ci h2 with⟨_,e⟩|⟨gc,cc,e2⟩
 . omega
 subst e1 e2;exact⟨gi,ci,gc,cc,h.blk,h.lo,h1,h2,fun e=>h.ne gi rfl (by simp only[]at e;rw[e];rfl),h.bel,br,fun y hy=>cX.1 hy,hl,h.cb⟩
end
theorem gL{q:Prop}(h:q:=by
 go_wp2_with fail
 refine(T5 E).mono ?_;rintro e u ⟨rfl,_,_,_,E⟩;exact gE):q:=h
theorem RU:Sp 0 8 1:=by
 intro w u s k p left lv nt D t deep E hd hd2 hp hl ht;obtain⟨_,_,q0,_⟩:=E.o.cells;have hd':decide (deep<=0)=true:=by simpa using hd
 go_enter Tryz.func36,Tryz.ntmps36;exact gL
theorem OL{n A P:Int}(hA:8<=A/\A<=100000)(hP:1<=P/\P<=100)(hn:0<=n/\n<=1000)(ih:Sp n A P):Sp (n+1) (3*A+124) (3*P+1):=by
 intro w u s k p left lv nt D t deep E hd hd2 hp hl ht;have H:=Af ih;have hp0:=E.o.le;obtain⟨_,_,q0,_,_,_,q4,_⟩:=E.o.cells;clear ih;go_enter Tryz.func36,Tryz.ntmps36;by_cases h1:deep<=0;rotate_left;by_cases h2:left<6;rotate_left;have hwd:IntKind.i64.wrap (deep-1)=deep-1:=cQ _ ⟨by omega,by omega⟩;go_wp2_with fail
 refine(Ol E).mono ?_;rintro e u ⟨r,rfl,hr,E⟩;clear q0 q4;rcases(show r=0\/r=1\/r=2\/r=3\/r=4\/r=5\/r=6\/r=7 by omega)with rfl|rfl|rfl|rfl|rfl|rfl|rfl|rfl
 . go_wp2_with fail
   refine(T7 E _).mono ?_;rintro e u ⟨r,rfl,hr,E,hcl⟩;obtain⟨vl,hvl,hv⟩:=UC r hr;rw[hvl]at hcl;by_cases hvt:vl=t
   case pos=>
    subst hvt;exact gL
   have hvt':(vl != t)=true:=by simpa using hvt
   go_wp2_with fail
   refine(Mc H E).mono ?_;rintro e u ⟨rfl,_,_,_,E⟩;go_wp2_with fail
   refine(Fa E ok8).mono ?_;rintro e u ⟨n,rfl,_,E⟩;exact gE
 . go_wp2_with fail
   refine(TS E).mono ?_;rintro e u ⟨r,p1,rfl,rfl|⟨b,rfl,hb⟩,hp1,E⟩
   case inl=>exact gL
   have hb0:(b:Int)>=0:=by omega
   go_wp2_with fail
   refine(St H E hb).mono ?_;rintro e u ⟨rfl,_,_,_,E⟩;exact gE
 . go_wp2_with fail
   refine(Ol E).mono ?_;rintro e u ⟨r,rfl,hr,E⟩;obtain⟨q,rfl⟩:=aS hr.1;have hq:=hr.2;obtain⟨gr,cr,a,n,c,d0,d1,d2,_,HM⟩:=Si E (show q<3 by omega);go_wp2_with fail
   refine(HM.o t).mono ?_;rintro e u ⟨r,m',p1,rfl,rfl|⟨b,m,rfl,rfl,hm⟩,hp1,E⟩
   case inl=>exact gL
   have hb0:(b:Int)>=0:=by omega
   go_wp2_with fail
   refine(Mc H E).mono ?_;rintro e u ⟨rfl,_,_,_,E⟩;go_wp2_with fail
   refine(Fa E (ok4 E.o.ok hm.2 hm.1)).mono ?_;rintro e u ⟨n,rfl,_,E⟩;exact gE
 iterate 3
  go_wp2_with fail
  refine(opG H E).mono ?_;rintro e u ⟨rfl,_,_,_,E⟩;exact gE
 all_goals exact gL
theorem NT:Sp 1 148 4:=OL (n:=0) (A:=8) (P:=1) (by omega) (by omega) (by omega) RU
theorem QC:Sp 2 568 13:=OL (n:=1) (A:=148) (P:=4) (by omega) (by omega) (by omega) NT
end Go.Proofs.YtjcamlobelcepaaGreatDoor
