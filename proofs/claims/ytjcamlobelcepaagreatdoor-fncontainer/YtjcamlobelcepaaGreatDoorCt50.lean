import Derived.Test.YtjcamlobelcepaaGreatDoorCt49
import Derived.Test.YtjcamlobelcepaaGreatDoorCt32
import Derived.Test.YtjcamlobelcepaaGreatDoorCt11
namespace Go.Proofs.YtjcamlobelcepaaGreatDoor
open Go.ChangeShapes Go.WideShapes Go.ChangeAt Go.RowKit
set_option linter.unusedVariables false
set_option maxHeartbeats 8000000
set_option maxRecDepth 100000
theorem Dq.keep{w u:World}(h:Dq w)(hb:Below w.heap.size w u):Dq u:=fun j hj=>by rw[hb.cell (aD (h j hj))];exact h j hj
theorem D2{w u2:World}{base:Nat}{e:TypeId}{s:Value}{k n:Nat}{xs:List Value}(h:w.ownsRow base e k s n xs)(hs:∀k,base<=k->u2.heap[k]?=w.heap[k]?):u2.ownsRow base e k s n xs:=by
 refine⟨h.1,?_⟩;rcases h.2 with h|⟨g,cap,cur,rfl,hb1,hgg,hr⟩
 . exact .inl h
 . refine .inr ⟨g,cap,cur,rfl,hb1,?_,hr⟩
   rw[hs g hb1];exact hgg
theorem Dc.same{w u2:World}{base:Nat}{v:VP}{x:MP}(h:Dc w base v x)(hs:∀k,base<=k->u2.heap[k]?=w.heap[k]?):Dc u2 base v x:=by
 obtain⟨⟨F,hF,h1,h2⟩,h3,⟨G,hG,h4,h5⟩,h6⟩:=h;exact⟨⟨F,hF,D2 h1 hs,fun y hy=>D2 (h2 y hy) hs⟩,D2 h3 hs,⟨G,hG,D2 h4 hs,fun y hy=>⟨D2 (h5 y hy).1 hs,D2 (h5 y hy).2.1 hs,D2 (h5 y hy).2.2 hs⟩⟩,D2 h6 hs⟩
theorem Dc.sl4{w:World}{base:Nat}{v:VP}{x:MP}(h:Dc w base v x):∃a1 c1 a2 c2 a3 c3 a4 c4,v=⟨.slice a1 x.regions.length c1,.slice a2 x.consts.length c2,.slice a3 x.funcs.length c3,.slice a4 x.certs.length c4⟩:=by
 obtain⟨v1,v2,v3,v4⟩:=v;obtain⟨⟨F,hF,h1,h2⟩,h3,⟨G,hG,h4,h5⟩,h6⟩:=h;obtain⟨a1,c1,e1⟩:=A9 h1;obtain⟨a2,c2,e2⟩:=A9 h3;obtain⟨a3,c3,e3⟩:=A9 h4;obtain⟨a4,c4,e4⟩:=A9 h6;simp only[]at e1 e2 e3 e4;subst e1 e2 e3 e4;exact⟨a1,c1,a2,c2,a3,c3,a4,c4,rfl⟩
theorem Tu.f0{m:MP}(h:Tu m):AV m 0:=.inr (.inr (.inr (.inr (.inr ⟨rfl,h.ok⟩))))
theorem RT{m:MP}(h:Tu m):10<(DN m).length/\(DN m).length<=400000:=by
 have h1:=IM _ h.ok.1;have h2:=IR h.ok.2.2.1;have h3:=LC AY 5 m.consts fun y _=>by simp[AY,At]
 have h4:=LC Bo 9 m.certs fun y _=>by simp[Bo,Eb,At]
 have:=h.tg.cl;have:=h.tg.tl;simp only[DN,BP,BL,At,aH,bB,br,bL,bc];omega
theorem QN(a:Option Addr)(len cap:Nat)(w:World)(hl:len<=140737488355328)(hc:FZ w w.heap.size a len):
 Calls Tryz.prog 4 #[.slice a len cap] w fun e w'=>∃v m base,e=.returned (.agg #[v.r,v.k,v.f,v.t])/\base<=w'.heap.size/\Dc w' base v m/\Tu m/\Below w.heap.size w w':=by
 have B0:=Af (Aa w (.cells #[sN,sN,sN,sN] 28));have K0:=Af (Ap.new w #[sN,sN,sN,sN] 28);have hsz:(w.alloc (.cells #[sN,sN,sN,sN] 28)).heap.size=w.heap.size+1:=by simp
 have HC:=Af (hc.of_drawn (dY (show w.heap.size<w.heap.size+1 by omega)) lR (fun k hk=>B0.o.block k hk));clear hc;go_enter Tryz.func4,Tryz.ntmps4;go_upto_region 1 with fail
 rw[<-hsz]at HC;have HZ:=Af hsz;clear hsz;generalize w.alloc (.cells #[sN,sN,sN,sN] 28)=W at B0 K0 HC HZ⊢;go_wp2_with fail
 refine(LI a len cap W hl HC.o).mono ?_;rintro e w1 ⟨rfl,hs,hb⟩;have E1:=Af (aG hs (aG (Ab B0.o lR hb) (aG (K0.o.keep hb) hb.size)));clear hs hb;go_wp2_with fail
 refine(JM w1 ⟨W.heap.size,a,len,cap⟩ 0 E1.o.1 (by omega)).mono ?_;rintro e U ⟨v,m,rfl,ho,hf,p',_,_,hd⟩;have hd:AR W.heap.size w1 U:=hd;obtain⟨a1,c1,a2,c2,a3,c3,a4,c4,ev⟩:=ho.sl4;subst ev
 have KU:Hid (Ap U w.heap.size #[sN,sN,sN,sN] 28):=by
  have h1:=E1.o.2.2.1;have h2:=HZ.o;have h3:=E1.o.2.2.2;unfold Ap at*;show U.heap[w.heap.size]?=_;rw[hd.block w.heap.size (by omega) (by omega)];exact h1
 have HE:=Af (aG ho (aG hf ((E1.o.2.1.grown hd.grow E1.o.2.1.size (fun k hk=>by cases hk;have:=HZ.o;omega)))));have hXl:w.heap.size<w1.heap.size:=by have:=HZ.o;have:=E1.o.2.2.2;omega
 have HX:=Af hXl;have z0:U.cell? ⟨w.heap.size,0,none⟩=some sN:=KU.o.cell 0;have z1:U.cell? ⟨w.heap.size,1,none⟩=some sN:=KU.o.cell 1;have z2:U.cell? ⟨w.heap.size,2,none⟩=some sN:=KU.o.cell 2;have z3:U.cell? ⟨w.heap.size,3,none⟩=some sN:=KU.o.cell 3;have y0:=KU.o.frozen 0;have y1:=KU.o.frozen 1;have y2:=KU.o.frozen 2;have y3:=KU.o.frozen 3;have hU:=Af hd.size;clear ho hf hd E1 hXl;go_wp2_with fail
 have KF:=Af ((((KU.o.set 0 (.slice a1 m.regions.length c1)).set 1 (.slice a2 m.consts.length c2)).set 2 (.slice a3 m.funcs.length c3)).set 3 (.slice a4 m.certs.length c4));have w0:((((U.setCell ⟨w.heap.size,0,none⟩ (.slice a1 m.regions.length c1)).setCell ⟨w.heap.size,1,none⟩ (.slice a2 m.consts.length c2)).setCell ⟨w.heap.size,2,none⟩ (.slice a3 m.funcs.length c3)).setCell ⟨w.heap.size,3,none⟩ (.slice a4 m.certs.length c4)).cell? ⟨w.heap.size,0,none⟩=some (.slice a1 m.regions.length c1):=KF.o.cell 0;have w1':((((U.setCell ⟨w.heap.size,0,none⟩ (.slice a1 m.regions.length c1)).setCell ⟨w.heap.size,1,none⟩ (.slice a2 m.consts.length c2)).setCell ⟨w.heap.size,2,none⟩ (.slice a3 m.funcs.length c3)).setCell ⟨w.heap.size,3,none⟩ (.slice a4 m.certs.length c4)).cell? ⟨w.heap.size,1,none⟩=some (.slice a2 m.consts.length c2):=KF.o.cell 1;have w2:((((U.setCell ⟨w.heap.size,0,none⟩ (.slice a1 m.regions.length c1)).setCell ⟨w.heap.size,1,none⟩ (.slice a2 m.consts.length c2)).setCell ⟨w.heap.size,2,none⟩ (.slice a3 m.funcs.length c3)).setCell ⟨w.heap.size,3,none⟩ (.slice a4 m.certs.length c4)).cell? ⟨w.heap.size,2,none⟩=some (.slice a3 m.funcs.length c3):=KF.o.cell 2
 have w3:((((U.setCell ⟨w.heap.size,0,none⟩ (.slice a1 m.regions.length c1)).setCell ⟨w.heap.size,1,none⟩ (.slice a2 m.consts.length c2)).setCell ⟨w.heap.size,2,none⟩ (.slice a3 m.funcs.length c3)).setCell ⟨w.heap.size,3,none⟩ (.slice a4 m.certs.length c4)).cell? ⟨w.heap.size,3,none⟩=some (.slice a4 m.certs.length c4):=KF.o.cell 3
 exact aW (v:=.agg #[.slice a1 m.regions.length c1,.slice a2 m.consts.length c2,.slice a3 m.funcs.length c3,.slice a4 m.certs.length c4]) (by simp[results,Tryz.results4,go_sem,w0,w1',w2,w3]) rfl ⟨⟨.slice a1 m.regions.length c1,.slice a2 m.consts.length c2,.slice a3 m.funcs.length c3,.slice a4 m.certs.length c4⟩,m,w1.heap.size,rfl,by simp only[bf];exact hU.o,HE.o.1.same (fun k hk=>by
  have:=HX.o;rw[bI _ _ k _ (by show k≠w.heap.size;omega),bI _ _ k _ (by show k≠w.heap.size;omega),bI _ _ k _ (by show k≠w.heap.size;omega),bI _ _ k _ (by show k≠w.heap.size;omega)]),HE.o.2.1,(((HE.o.2.2.setCell lR _).setCell lR _).setCell lR _).setCell lR _⟩
structure Lt(w u:World)(X:Nat)(v:VP)(m:MP):Prop where
 bel:Below w.heap.size w u
 blk:Ap u X #[v.r,v.k,v.f,v.t] 28
 own:∃base,base<=u.heap.size/\Dc u base v m
 tab:Dq u
 err:CY u
theorem Lt.keep{w u u':World}{v:VP}{m:MP}{X:Nat}(h:Lt w u X v m)(hb:Below u.heap.size u u'):Lt w u' X v m:=by
 obtain⟨base,h1,h2⟩:=h.own;exact⟨Ab h.bel lR hb,h.blk.keep hb,⟨base,aR h1 hb.size,h2.keep hb lR⟩,h.tab.keep hb,h.err.keep hb⟩
structure Lu(w u:World)(X Y:Nat)(v v':VP)(m:MP):Prop where
 t:Lt w u X v m
 blk:Ap u Y #[iZ 0,v'.r,v'.k,v'.f,v'.t] 32
 own:∃base,Dc u base v' m
theorem Lu.keep{w u u':World}{v v':VP}{m:MP}{X Y:Nat}(h:Lu w u X Y v v' m)(hb:Below u.heap.size u u'):Lu w u' X Y v v' m:=by
 obtain⟨base,h2⟩:=h.own;exact⟨h.t.keep hb,h.blk.keep hb,⟨base,h2.keep hb lR⟩⟩
abbrev Lcc(X Y:Nat)(v v':VP)(W:World):Prop:=W.cell? ⟨X,0,none⟩=some v.r/\W.cell? ⟨X,1,none⟩=some v.k/\W.cell? ⟨X,2,none⟩=some v.f/\W.cell? ⟨X,3,none⟩=some v.t/\W.cell? ⟨Y,0,none⟩=some (iZ 0)/\W.cell? ⟨Y,1,none⟩=some v'.r/\W.cell? ⟨Y,2,none⟩=some v'.k/\W.cell? ⟨Y,3,none⟩=some v'.f/\W.cell? ⟨Y,4,none⟩=some v'.t
theorem Lu.cc{w u:World}{v v':VP}{m:MP}{X Y:Nat}(h:Lu w u X Y v v' m):Lcc X Y v v' u:=⟨h.t.blk.cell 0,h.t.blk.cell 1,h.t.blk.cell 2,h.t.blk.cell 3,h.blk.cell 0,h.blk.cell 1,h.blk.cell 2,h.blk.cell 3,h.blk.cell 4⟩
theorem JD(a0:Option Addr)(len0 cap0:Nat)(w:World)(hc:FZ w w.heap.size a0 len0)(ht:Dq w)(hev:CY w):
 Calls Tryz.prog 3 #[.slice a0 len0 cap0] w fun e w'=>e=.returned (.bool true)/\Below w.heap.size w w':=by
 have HC:=Af (aG hc (aG ht hev));clear hc ht hev;go_enter Tryz.func3,Tryz.ntmps3;by_cases hL:len0<=1048576;rotate_left
 . have hL':(1048576:Int)<(len0:Int):=by omega
   go_wp2
   go_ret
   exact⟨rfl,aq _ _⟩
 have hL':¬(1048576:Int)<(len0:Int):=by omega
 go_wp2_with fail
 refine(QN a0 len0 cap0 w (by omega) HC.o.1).mono ?_;rintro e u1 ⟨v,m,base,rfl,hbs,ho,hf,hb⟩;obtain⟨a1,c1,a2,c2,a3,c3,a4,c4,ev⟩:=ho.sl4;subst ev;have HM:=Af hf;have E1:=Af (Lt.keep (X:=u1.heap.size) (u:=u1.alloc (.cells #[.slice a1 m.regions.length c1,.slice a2 m.consts.length c2,.slice a3 m.funcs.length c3,.slice a4 m.certs.length c4] 28)) (v:=⟨.slice a1 m.regions.length c1,.slice a2 m.consts.length c2,.slice a3 m.funcs.length c3,.slice a4 m.certs.length c4⟩) (m:=m) ⟨Ab hb lR (Aa _ _),Ap.new _ _ _,⟨base,aR hbs (Aa _ _).size,ho.keep (Aa _ _) lR⟩,(HC.o.2.1.keep hb).keep (Aa _ _),(HC.o.2.2.keep hb).keep (Aa _ _)⟩ (aq _ _));clear hbs ho hf hb HC;go_upto_region 4 with fail
 refine An (fun u=>Hid (Lt w u u1.heap.size ⟨.slice a1 m.regions.length c1,.slice a2 m.consts.length c2,.slice a3 m.funcs.length c3,.slice a4 m.certs.length c4⟩ m)) E1 ?_;clear E1;generalize u1.heap.size=X;intro u2 E2;have k0:u2.cell? ⟨X,0,none⟩=some (.slice a1 m.regions.length c1):=E2.o.blk.cell 0;have k1:u2.cell? ⟨X,1,none⟩=some (.slice a2 m.consts.length c2):=E2.o.blk.cell 1;have k2:u2.cell? ⟨X,2,none⟩=some (.slice a3 m.funcs.length c3):=E2.o.blk.cell 2;have k3:u2.cell? ⟨X,3,none⟩=some (.slice a4 m.certs.length c4):=E2.o.blk.cell 3;obtain⟨base,hbs,ho⟩:=E2.o.own;have HO:=Af (aG hbs ho);clear hbs ho;go_wp2_with fail
 refine(JI ⟨.slice a1 m.regions.length c1,.slice a2 m.consts.length c2,.slice a3 m.funcs.length c3,.slice a4 m.certs.length c4⟩ m base u2 HM.o.sm HM.o.wf HO.o.2 HO.o.1 E2.o.tab).mono ?_;rintro e u3 ⟨r,rfl,hb,bs,hE,ho⟩
 have hbs:bs=DN m:=by
  rcases hE with⟨_,h⟩|⟨h,_⟩
  . exact h
  . exact absurd HM.o.f0 h
 obtain⟨a,c,rfl,hcc⟩:=J5 ho;have hZ:=IP (show Cg bs by rw[hbs];exact(Hb m).append (Bm _ _));obtain⟨zs,hzs⟩:∃zs,zs=CV bs:=⟨_,rfl⟩;rw[<-hzs]at hZ;have hlen:=RT HM.o;rw[<-hbs]at hlen;have E3:=Af (aG (E2.o.keep hb) (aG (show Dp u3 (.slice a bs.length c) bs.length (zs.map (Value.int .u8))by rw[hZ.1];exact Dp.of_own ho) (show DC zs from hZ.2)));have HD:=Af (Ff.back (zs:=zs) hZ.2 HM.o.tg HM.o.f0 (hZ.1.trans hbs));clear hE ho hb hzs hZ hbs E2 k0 k1 k2 k3 HO;generalize bs.length=L at E3 hlen hcc⊢;go_wp2_with fail;refine(JH a L c zs u3 (by omega) hcc E3.o.1.tab E3.o.1.err E3.o.2.1 E3.o.2.2).mono ?_;rintro e u4 ⟨code,v',F,ks,G,ts,rfl,hsep,hsm,hdec,hb⟩;obtain⟨rfl,hm⟩:=hdec.one HD.o;obtain⟨b1,d1,b2,d2,b3,d3,b4,d4,ev⟩:=EY hsep;subst ev
 have E4:=Af (show Lu w (u4.alloc (.cells #[iZ 0,.slice b1 F.length d1,.slice b2 ks.length d2,.slice b3 G.length d3,.slice b4 ts.length d4] 32)) X u4.heap.size ⟨.slice a1 m.regions.length c1,.slice a2 m.consts.length c2,.slice a3 m.funcs.length c3,.slice a4 m.certs.length c4⟩ ⟨.slice b1 F.length d1,.slice b2 ks.length d2,.slice b3 G.length d3,.slice b4 ts.length d4⟩ m from
  ⟨(E3.o.1.keep hb).keep (Aa _ _),Ap.new _ _ _,⟨u3.heap.size,by have:=hsep.ownPD;rw[hm]at this;exact this.keep (Aa _ _) lR⟩⟩)
 clear hsep hsm hdec hb hm E3 HD;go_upto_region 6 with fail
 refine An (fun u=>Hid (Lu w u X u4.heap.size ⟨.slice a1 m.regions.length c1,.slice a2 m.consts.length c2,.slice a3 m.funcs.length c3,.slice a4 m.certs.length c4⟩ ⟨.slice b1 F.length d1,.slice b2 ks.length d2,.slice b3 G.length d3,.slice b4 ts.length d4⟩ m)) E4 ?_;clear E4;generalize u4.heap.size=Y;intro u5 E5;have hL10:(10:Int)<(L:Int):=by omega
 have HP:Hid (∀u,Lu w u X Y ⟨.slice a1 m.regions.length c1,.slice a2 m.consts.length c2,.slice a3 m.funcs.length c3,.slice a4 m.certs.length c4⟩ ⟨.slice b1 F.length d1,.slice b2 ks.length d2,.slice b3 G.length d3,.slice b4 ts.length d4⟩ m->Calls Tryz.prog 7 #[.agg #[.slice a1 m.regions.length c1,.slice a2 m.consts.length c2,.slice a3 m.funcs.length c3,.slice a4 m.certs.length c4]] u (fun e u'=>e=.returned (iZ 0)/\Below u.heap.size u u')):=fun u h=>by
  obtain⟨base,_,ho⟩:=h.t.own;refine(Kr ⟨.slice a1 m.regions.length c1,.slice a2 m.consts.length c2,.slice a3 m.funcs.length c3,.slice a4 m.certs.length c4⟩ m u HM.o.sm HM.o.wf ho.rd ho.regions.rdc ho.funcs.rdp h.t.err).mono ?_;rintro e u' ⟨⟨n,rfl,hn⟩,hb⟩;rw[hn.one HM.o.f0];exact⟨rfl,hb⟩
 have HS:Hid (∀u,Lu w u X Y ⟨.slice a1 m.regions.length c1,.slice a2 m.consts.length c2,.slice a3 m.funcs.length c3,.slice a4 m.certs.length c4⟩ ⟨.slice b1 F.length d1,.slice b2 ks.length d2,.slice b3 G.length d3,.slice b4 ts.length d4⟩ m->Calls Tryz.prog 8 #[.agg #[.slice b1 F.length d1,.slice b2 ks.length d2,.slice b3 G.length d3,.slice b4 ts.length d4],.agg #[.slice a1 m.regions.length c1,.slice a2 m.consts.length c2,.slice a3 m.funcs.length c3,.slice a4 m.certs.length c4]] u (fun e u'=>e=.returned (.bool true)/\Below u.heap.size u u')):=fun u h=>by
  obtain⟨base,_,ho⟩:=h.t.own;obtain⟨base',ho'⟩:=h.own;exact(G4 ⟨.slice b1 F.length d1,.slice b2 ks.length d2,.slice b3 G.length d3,.slice b4 ts.length d4⟩ ⟨.slice a1 m.regions.length c1,.slice a2 m.consts.length c2,.slice a3 m.funcs.length c3,.slice a4 m.certs.length c4⟩ m m u HM.o.sm HM.o.sm ho'.rd ho.rd).mono fun e u' h=>⟨h.1.true rfl,h.2⟩
 have HI:Hid (∀u,Lu w u X Y ⟨.slice a1 m.regions.length c1,.slice a2 m.consts.length c2,.slice a3 m.funcs.length c3,.slice a4 m.certs.length c4⟩ ⟨.slice b1 F.length d1,.slice b2 ks.length d2,.slice b3 G.length d3,.slice b4 ts.length d4⟩ m->Calls Tryz.prog 9 #[.agg #[.slice b1 F.length d1,.slice b2 ks.length d2,.slice b3 G.length d3,.slice b4 ts.length d4],.agg #[.slice a1 m.regions.length c1,.slice a2 m.consts.length c2,.slice a3 m.funcs.length c3,.slice a4 m.certs.length c4]] u (fun e u'=>e=.returned (.bool true)/\Below u.heap.size u u')):=fun u h=>by
  obtain⟨base,_,ho⟩:=h.t.own;obtain⟨base',ho'⟩:=h.own;exact(GX ⟨.slice b1 F.length d1,.slice b2 ks.length d2,.slice b3 G.length d3,.slice b4 ts.length d4⟩ ⟨.slice a1 m.regions.length c1,.slice a2 m.consts.length c2,.slice a3 m.funcs.length c3,.slice a4 m.certs.length c4⟩ m m u HM.o.sm HM.o.sm ho'.rd ho.rd).mono fun e u' h=>⟨h.1.true rfl,h.2⟩
 clear HM;have E:=E5;clear E5;obtain⟨x0,x1,x2,x3,x4,x5,x6,x7,x8⟩:=E.o.cc;simp only[]at x0 x1 x2 x3 x4 x5 x6 x7 x8;go_wp2_with fail
 refine(HP.o _ E.o).mono ?_;rintro e u7 ⟨rfl,hb⟩;have E:=Af (E.o.keep hb);clear hb x0 x1 x2 x3 x4 x5 x6 x7 x8;obtain⟨x0,x1,x2,x3,x4,x5,x6,x7,x8⟩:=E.o.cc;simp only[]at x0 x1 x2 x3 x4 x5 x6 x7 x8;go_wp2_with fail
 refine(HS.o _ E.o).mono ?_;rintro e u8 ⟨rfl,hb⟩;have E:=Af (E.o.keep hb);clear hb x0 x1 x2 x3 x4 x5 x6 x7 x8;obtain⟨x0,x1,x2,x3,x4,x5,x6,x7,x8⟩:=E.o.cc;simp only[]at x0 x1 x2 x3 x4 x5 x6 x7 x8;go_wp2_with fail
 refine(HI.o _ E.o).mono ?_;rintro e u9 ⟨rfl,hb⟩;have E:=Af (E.o.keep hb);clear hb x0 x1 x2 x3 x4 x5 x6 x7 x8;go_wp2_with fail
 go_ret
 exact⟨rfl,E.o.t.bel⟩
end Go.Proofs.YtjcamlobelcepaaGreatDoor
