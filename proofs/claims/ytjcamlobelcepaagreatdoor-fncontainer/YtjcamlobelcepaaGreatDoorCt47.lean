import Derived.Test.YtjcamlobelcepaaGreatDoorCt43
import Derived.Test.YtjcamlobelcepaaGreatDoorCt46
namespace Go.Proofs.YtjcamlobelcepaaGreatDoor
open Go.ChangeShapes Go.WideShapes Go.ChangeAt Go.RowKit
set_option linter.unusedVariables false
set_option maxHeartbeats 8000000
set_option maxRecDepth 100000
structure Bd(w u0 u:World)(X gc cc gd cd n:Nat):Prop where
 c:∃C:List Int,C.length=n/\u.ownsRow w.heap.size 2 1 (sG gc n cc) n (C.flatMap Ac)
 d:∃D:List Int,D.length=n/\u.ownsRow w.heap.size 2 1 (sG gd n cd) n (D.flatMap Ac)
 ne:gc≠gd
 bel:Below w.heap.size w u
 up:gc<X/\gd<X/\w.heap.size<=X
 xs:X<=u.heap.size
 fr:∀b,b<X->b≠gc->b≠gd->u.heap[b]?=u0.heap[b]?
section
variable {w u0 u u':World} {X gc cc gd cd n:Nat}
theorem Bd.keep(h:Bd w u0 u X gc cc gd cd n)(hb:Below u.heap.size u u'):Bd w u0 u' X gc cc gd cd n:=by
 obtain⟨C,c1,c2⟩:=h.c;obtain⟨D,d1,d2⟩:=h.d;exact⟨⟨C,c1,Ah c2 hb lR⟩,⟨D,d1,Ah d2 hb lR⟩,h.ne,Ab h.bel lR hb,h.up,aR h.xs hb.size,fun b h1 h2 h3=>by have:=h.xs;rw[hb.block b (by omega)];exact h.fr b h1 h2 h3⟩
theorem Bd.set(h:Bd w u0 u X gc cc gd cd n){a:Addr}(ha:X<=a.block)(V:Value):Bd w u0 (u.setCell a V) X gc cc gd cd n:=by
 obtain⟨C,c1,c2⟩:=h.c;obtain⟨D,d1,d2⟩:=h.d;have:=h.up;exact⟨⟨C,c1,aN c2 (a:=a) (fun e=>by simp only[Value.ownBlock,aM]at e;omega) V⟩,⟨D,d1,aN d2 (a:=a) (fun e=>by simp only[Value.ownBlock,aM]at e;omega) V⟩,h.ne,h.bel.setCell (by omega) _,h.up,by rw[bf];exact h.xs,fun b h1 h2 h3=>by rw[bI u a b V (by omega)];exact h.fr b h1 h2 h3⟩
theorem Bd.cost(h:Bd w u0 u X gc cc gd cd n){j:Nat}(hj:j<n):(∃z:Int,u.cell? ⟨gc,j,none⟩=some (iZ z))/\u.frozen? ⟨gc,j,none⟩=false/\∀z:Int,Bd w u0 (u.setCell ⟨gc,j,none⟩ (iZ z)) X gc cc gd cd n/\(u.setCell ⟨gc,j,none⟩ (iZ z)).cell? ⟨gc,j,none⟩=some (iZ z):=by
 obtain⟨C,c1,c2⟩:=h.c;obtain⟨D,d1,d2⟩:=h.d;have hc:=bF c2 j (by omega);rw[Hc (aA (by omega))]at hc;refine⟨⟨_,hc⟩,c2.frozenAt j,fun z=>⟨?_,dz u _ _ hc⟩⟩;have hs:=(cP c2 j (iZ z)).1;rw[LE]at hs;exact⟨⟨_,by rw[cg];exact c1,hs⟩,⟨D,d1,BU d2 h.ne.symm⟩,h.ne,h.bel.setCell (AF c2).1 _,h.up,by rw[bf];exact h.xs,fun b h1 h2 h3=>by rw[bI u ⟨gc,j,none⟩ b _ h2];exact h.fr b h1 h2 h3⟩
theorem Bd.depth(h:Bd w u0 u X gc cc gd cd n){j:Nat}(hj:j<n):(∃z:Int,u.cell? ⟨gd,j,none⟩=some (iZ z))/\u.frozen? ⟨gd,j,none⟩=false/\∀z:Int,Bd w u0 (u.setCell ⟨gd,j,none⟩ (iZ z)) X gc cc gd cd n/\(u.setCell ⟨gd,j,none⟩ (iZ z)).cell? ⟨gd,j,none⟩=some (iZ z):=by
 obtain⟨C,c1,c2⟩:=h.c;obtain⟨D,d1,d2⟩:=h.d;have hc:=bF d2 j (by omega);rw[Hc (aA (by omega))]at hc;refine⟨⟨_,hc⟩,d2.frozenAt j,fun z=>⟨?_,dz u _ _ hc⟩⟩;have hs:=(cP d2 j (iZ z)).1;rw[LE]at hs;exact⟨⟨C,c1,BU c2 h.ne⟩,⟨_,by rw[cg];exact d1,hs⟩,h.ne,h.bel.setCell (AF d2).1 _,h.up,by rw[bf];exact h.xs,fun b h1 h2 h3=>by rw[bI u ⟨gd,j,none⟩ b _ h3];exact h.fr b h1 h2 h3⟩
theorem Bd.re(h:Bd w u0 u X gc cc gd cd n):Bd w u u u.heap.size gc cc gd cd n:=by
 obtain⟨C,c1,c2⟩:=h.c;obtain⟨D,d1,d2⟩:=h.d;exact⟨h.c,h.d,h.ne,h.bel,⟨(c2.lt gc rfl).2,(d2.lt gd rfl).2,h.bel.size⟩,Nat.le_refl _,fun _ _ _ _=>rfl⟩
end
def TG(w u0:World)(X gc cc gd cd n:Nat)(e:Ending)(u':World):Prop:=∃c f a:Int,e=.returned (.agg #[iZ c,iZ f,iZ a,sN,sN])/\Below w.heap.size w u'/\Bd w u0 u' X gc cc gd cd n
theorem CD{w:World}{b:Nat}{t:TypeId}{a0 a1 a2 a3 a4:Value}(h:Ap w b #[a0,a1,a2,a3,a4] t):w.cell? ⟨b,0,none⟩=some a0/\w.cell? ⟨b,1,none⟩=some a1/\w.cell? ⟨b,2,none⟩=some a2/\w.cell? ⟨b,3,none⟩=some a3/\w.cell? ⟨b,4,none⟩=some a4:=⟨h.cell 0,h.cell 1,h.cell 2,h.cell 3,h.cell 4⟩
theorem IA{w:World}{b:Nat}{t:TypeId}{cur:Array Value}(h:Ap w b cur t):w.frozen? ⟨b,0,none⟩=false/\w.frozen? ⟨b,1,none⟩=false/\w.frozen? ⟨b,2,none⟩=false/\w.frozen? ⟨b,3,none⟩=false/\w.frozen? ⟨b,4,none⟩=false:=⟨h.frozen 0,h.frozen 1,h.frozen 2,h.frozen 3,h.frozen 4⟩
theorem Bd.set5{w u0 U:World}{X gc cc gd cd n:Nat}(h:Bd w u0 U X gc cc gd cd n)(x0 x1 x2 x3 x4:Value):Bd w u0 (((((U.setCell ⟨X+1,0,none⟩ x0).setCell ⟨X+1,1,none⟩ x1).setCell ⟨X+1,2,none⟩ x2).setCell ⟨X+1,3,none⟩ x3).setCell ⟨X+1,4,none⟩ x4) X gc cc gd cd n:=
 have e:X<=X+1:=by omega
 ((((h.set (a:=⟨X+1,0,none⟩) e x0).set (a:=⟨X+1,1,none⟩) e x1).set (a:=⟨X+1,2,none⟩) e x2).set (a:=⟨X+1,3,none⟩) e x3).set (a:=⟨X+1,4,none⟩) e x4
structure Qg(w u0 U:World)(X gc cc gd cd n:Nat)(P4:Array Value):Prop where
 bd:Bd w u0 U X gc cc gd cd n
 pb:Ap U X P4 28
 rb:Ap U (X+1) #[iZ 0,iZ 0,iZ 0,sN,sN] 86
theorem Qg.keep{w u0 U U':World}{X gc cc gd cd n:Nat}{P4:Array Value}(h:Qg w u0 U X gc cc gd cd n P4)(hb:Below U.heap.size U U'):Qg w u0 U' X gc cc gd cd n P4:=⟨h.bd.keep hb,h.pb.keep hb,h.rb.keep hb⟩
theorem Nc(v:VP)(p:MP)(q:Nat)(X gc cc gd cd:Nat)(w u:World)(hX:u.heap.size=X)(hs:p.small)(hw:p.wf)(hfa:AV p 0)(h:Ej w v p)(hq:q<p.funcs.length)(hB:Bd w u u X gc cc gd cd p.funcs.length):
 Calls Tryz.prog 60 #[.agg #[v.r,v.k,v.f,v.t],iZ (q:Int),sG gc p.funcs.length cc,sG gd p.funcs.length cd] u (TG w u X gc cc gd cd p.funcs.length):=by
 obtain⟨i64,hi,hz0,hz1,hz2⟩:=bJ CF;obtain⟨r1,r3,k1,k3,t1,t3,f1,f3,rfl⟩:=h.sl;obtain⟨f,hf⟩:∃f,p.funcs[q]?=some f:=⟨_,aA hq⟩;obtain⟨gk,ok,ck,efn,g,hrf,m0,m1,m2,m3⟩:=KZ h.funcs hf;simp only[aI,ao]at efn;obtain⟨rfl,rfl⟩:=efn;obtain⟨g1,g3,g4,g6,g7,g9,rfl⟩:=Gv hrf;have hfs:=hs.func f (aF hf);have hqI:(q:Int)<(p.funcs.length:Int):=by omega
 have hps:=hs.funcs;have hts:=hs.certs;have H:Hid (p.small/\p.wf/\AV p 0/\Ej w ⟨.slice r1 p.regions.length r3,.slice k1 p.consts.length k3,sO gk ok p.funcs.length f3,.slice t1 p.certs.length t3⟩ p/\p.funcs[q]?=some f/\f.small/\Rd w 4 (.slice g7 f.code.length g9) f.code.length (f.code.flatMap MI.cells)/\Ec (q:Int)):=⟨hs,hw,hfa,h,hf,hfs,hrf.2.2,BZ (by omega) (by omega)⟩
 simp only[]at m3;have M3:=Af m3;have hup:=hB.up
 have E0:Hid (Qg w u ((u.alloc (.cells #[.slice r1 p.regions.length r3,.slice k1 p.consts.length k3,sO gk ok p.funcs.length f3,.slice t1 p.certs.length t3] 28)).alloc (.cells #[iZ 0,iZ 0,iZ 0,sN,sN] 86)) X gc cc gd cd p.funcs.length #[.slice r1 p.regions.length r3,.slice k1 p.consts.length k3,sO gk ok p.funcs.length f3,.slice t1 p.certs.length t3]):=by
  have e:=FO u #[.slice r1 p.regions.length r3,.slice k1 p.consts.length k3,sO gk ok p.funcs.length f3,.slice t1 p.certs.length t3] #[iZ 0,iZ 0,iZ 0,sN,sN] 28 86;rw[hX]at e;exact⟨hB.keep (hX▸e.2.2),e.1,e.2.1⟩
 clear hs hw hfa h hf hfs hrf hB m0 m1 m2 m3;go_enter Tryz.func60,Tryz.ntmps60;go_upto_region 1 with fail
 refine An (fun U=>Hid (Qg w u U X gc cc gd cd p.funcs.length #[.slice r1 p.regions.length r3,.slice k1 p.consts.length k3,sO gk ok p.funcs.length f3,.slice t1 p.certs.length t3])) E0 ?_;rintro U E1;clear E0;obtain⟨p0,p1,p2,p3⟩:=BD E1.o.pb;have m3:=Ad E1.o.bd.bel M3.o;go_wp2_with fail
 refine(Ei (.slice g7 f.code.length g9) f.code U H.o.2.2.2.2.2.1.2.2 (Rd.keep H.o.2.2.2.2.2.2.1 E1.o.bd.bel lR)).mono ?_;rintro e u2 ⟨r,vb,vo,vi,vl,rfl,hfl,hrd,bb⟩;obtain⟨v1,c1,v2,c2,v3,c3,v4,c4,rfl,rfl,rfl,rfl⟩:=J8 hrd;have HFL:=Af hfl;have hnl:r.loops.length<=1024:=(FA hfl).1;have b2:=Aa u2 (.cells #[iZ r.code,iZ r.at_,.slice v1 r.blocks.length c1,.slice v2 r.order.length c2,.slice v3 r.idom.length c3,.slice v4 r.loops.length c4] 163);have E2:=Af (aG ((E1.o.keep bb).keep b2) (aG ((Ap.new _ _ _):Ap (u2.alloc (.cells #[iZ r.code,iZ r.at_,.slice v1 r.blocks.length c1,.slice v2 r.order.length c2,.slice v3 r.idom.length c3,.slice v4 r.loops.length c4] 163)) u2.heap.size #[iZ r.code,iZ r.at_,.slice v1 r.blocks.length c1,.slice v2 r.order.length c2,.slice v3 r.idom.length c3,.slice v4 r.loops.length c4] 163) (hrd.keepL b2 lR)));clear hfl hrd bb b2 E1 p0 p1 p2 p3 m3;go_upto_region 2 with fail
 generalize u2.heap.size=FB at E2⊢;refine An (fun U=>Hid (Qg w u U X gc cc gd cd p.funcs.length #[.slice r1 p.regions.length r3,.slice k1 p.consts.length k3,sO gk ok p.funcs.length f3,.slice t1 p.certs.length t3]/\Ap U FB #[iZ r.code,iZ r.at_,.slice v1 r.blocks.length c1,.slice v2 r.order.length c2,.slice v3 r.idom.length c3,.slice v4 r.loops.length c4] 163/\Fu U (.slice v1 r.blocks.length c1) (.slice v2 r.order.length c2) (.slice v3 r.idom.length c3) (.slice v4 r.loops.length c4) r)) E2 ?_
 rintro U E3;clear E2;clear u2;obtain⟨y0,y1,y2,y3,y4,y5⟩:=ER E3.o.2.1;by_cases hcode:r.code=0
 case neg=>
  have hcode':(r.code != 0)=true:=by simpa using hcode
  obtain⟨a0,a1',a2,a3,a4⟩:=CD E3.o.1.rb;obtain⟨fz0,fz1,fz2,fz3,fz4⟩:=IA E3.o.1.rb;go_wp2_with fail
  have G:Hid _:=((((E3.o.1.rb.set 0 (iZ 3)).set 1 (iZ (q:Int))).set 2 (iZ r.at_)).set 3 sN).set 4 sN;simp only[aY,au,aw]at G;clear a0 a1' a2 a3 a4;obtain⟨a0,a1',a2,a3,a4⟩:=CD G.o;exact aW (v:=.agg #[iZ 3,iZ (q:Int),iZ r.at_,sN,sN]) (by simp[results,Tryz.results60,go_sem,a0,a1',a2,a3,a4]) rfl ⟨3,(q:Int),r.at_,rfl,(E3.o.1.bd.set5 _ _ _ _ _).bel,(E3.o.1.bd.set5 _ _ _ _ _)⟩
 have HC0:=Af hcode;have HI:=Af (HFL.o.inn hcode);have hnb:=HI.o.nb;obtain⟨p0,p1,p2,p3⟩:=BD E3.o.1.pb;rw[hcode]at y0;go_wp2_with fail
 refine(KM ⟨.slice r1 p.regions.length r3,.slice k1 p.consts.length k3,sO gk ok p.funcs.length f3,.slice t1 p.certs.length t3⟩ p (q:Int) U H.o.1 H.o.2.1 H.o.2.2.2.2.2.2.2 (H.o.2.2.2.1.keep E3.o.1.bd.bel lR)).mono ?_;rintro e u3 ⟨y,s,rfl,hty,hrr,bb⟩;obtain⟨sa,sc,es⟩:∃a c,s=.slice a y.shapes.length c:=by obtain⟨_,_,h2,_⟩:=hrr;exact h2.is_slice
 subst es;have HT:=Af hty;have hXl:X+1<u3.heap.size:=(E3.o.1.rb.keep bb).lt;have b3:=Aa u3 (.cells #[iZ y.code,iZ y.at_,iZ y.depth,.slice sa y.shapes.length sc] 166);have E4:=Af (aG ((E3.o.1.keep bb).keep b3) (aG ((E3.o.2.1.keep bb).keep b3) (aG ((E3.o.2.2.keepL bb lR).keepL b3 lR) (aG ((Ap.new _ _ _):Ap (u3.alloc (.cells #[iZ y.code,iZ y.at_,iZ y.depth,.slice sa y.shapes.length sc] 166)) u3.heap.size #[iZ y.code,iZ y.at_,iZ y.depth,.slice sa y.shapes.length sc] 166) ((NE.of hrr).keep b3)))));clear hty hrr bb b3 E3 p0 p1 p2 p3 y0 y1 y2 y3 y4 y5;clear U;go_upto_region 5 with fail
 generalize u3.heap.size=TB at E4 hXl⊢;refine An (fun U=>Hid (Qg w u U X gc cc gd cd p.funcs.length #[.slice r1 p.regions.length r3,.slice k1 p.consts.length k3,sO gk ok p.funcs.length f3,.slice t1 p.certs.length t3]/\Ap U FB #[iZ r.code,iZ r.at_,.slice v1 r.blocks.length c1,.slice v2 r.order.length c2,.slice v3 r.idom.length c3,.slice v4 r.loops.length c4] 163/\Fu U (.slice v1 r.blocks.length c1) (.slice v2 r.order.length c2) (.slice v3 r.idom.length c3) (.slice v4 r.loops.length c4) r/\Ap U TB #[iZ y.code,iZ y.at_,iZ y.depth,.slice sa y.shapes.length sc] 166/\NE U (.slice sa y.shapes.length sc) y.shapes.length)) E4 ?_
 rintro U E5;clear E4;obtain⟨z0,z1,z2,z3⟩:=BD E5.o.2.2.2.1;by_cases hyc:y.code=0
 case neg=>
  have hyc':(y.code != 0)=true:=by simpa using hyc
  obtain⟨a0,a1',a2,a3,a4⟩:=CD E5.o.1.rb;obtain⟨fz0,fz1,fz2,fz3,fz4⟩:=IA E5.o.1.rb;go_wp2_with fail
  have G:Hid _:=((((E5.o.1.rb.set 0 (iZ 4)).set 1 (iZ (q:Int))).set 2 (iZ y.at_)).set 3 sN).set 4 sN;simp only[aY,au,aw]at G;clear a0 a1' a2 a3 a4;obtain⟨a0,a1',a2,a3,a4⟩:=CD G.o;exact aW (v:=.agg #[iZ 4,iZ (q:Int),iZ y.at_,sN,sN]) (by simp[results,Tryz.results60,go_sem,a0,a1',a2,a3,a4]) rfl ⟨4,(q:Int),y.at_,rfl,(E5.o.1.bd.set5 _ _ _ _ _).bel,(E5.o.1.bd.set5 _ _ _ _ _)⟩
 have HYL:=Af (HT.o.len hyc H.o.2.2.2.2.1);rw[hyc]at z0;clear hyc;have F0:=Af (aG ((Aa _ _):Below U.heap.size U (U.alloc (.cells #[] 2))) (Ik U 2 1));go_wp2_with fail
 clear z0 z1 z2 z3;go_loopw [11,12,13] (fun V i _ wr=>∃(j:Nat) (aV:Option Addr) (zs:List Int) (cV:Nat),j<=r.loops.length/\V=.slice aV zs.length cV/\i=iZ j/\zs.length<=j/\Hid (Below U.heap.size U wr/\wr.ownsRow U.heap.size 2 1 (.slice aV zs.length cV) zs.length (zs.flatMap Ac))) (fun _ i _ _=>r.loops.length-(intOf i).toNat)
 case atStart=>exact⟨0,_,[],_,by omega,rfl,rfl,by simp,F0.o.1,F0.o.2⟩
 case round=>
  obtain⟨j,aV,zs,cV,hj,rfl,rfl,hzl,E7⟩:=hrel;have y5:=Ad E7.o.1 (ER E5.o.2.1).2.2.2.2.2;by_cases hlt:j<r.loops.length
  case pos=>
   have hltI:(j:Int)<(r.loops.length:Int):=by omega
   obtain⟨l,hl⟩:∃l,r.loops[j]?=some l:=⟨_,aA hlt⟩;obtain⟨gl,ol,a1,x1,a2,x2,ev4,i0,i1,i2,hrl⟩:=OT E5.o.2.2.1.loops hl;subst ev4;have hlm:=aF hl;obtain⟨⟨hd,ehd,hhd⟩,hbls,hbl1,hbl2⟩:=HI.o.loop _ hlm;rw[ehd]at i0;obtain⟨hb,hhb⟩:∃hb,r.blocks[hd]?=some hb:=⟨_,aA hhd⟩;obtain⟨gb,ob,b1,b2,eb,j0,_,_,_⟩:=Ge E5.o.2.2.1.blocks hhb;subst eb;obtain⟨ja,je,e2,e3,hae,hel⟩:=HI.o.blk hd hb hhb;rw[e2]at j0;have hhdI:(hd:Int)<(r.blocks.length:Int):=by omega
   have HZ:Hid (Ju U ⟨.slice a1 l.back.length x1,.slice a2 l.blocks.length x2⟩ l/\l.head=(hd:Int)/\l.small):=⟨hrl,ehd,by unfold ML.small;omega⟩
   have HC:Hid (∀W:World,Below U.heap.size U W->(W.cell? ⟨X,0,none⟩=some (.slice r1 p.regions.length r3)/\W.cell? ⟨X,1,none⟩=some (.slice k1 p.consts.length k3)/\W.cell? ⟨X,2,none⟩=some (sO gk ok p.funcs.length f3)/\W.cell? ⟨X,3,none⟩=some (.slice t1 p.certs.length t3))/\W.cell? ⟨FB,2,none⟩=some (sO gb ob r.blocks.length c1)/\W.cell? ⟨FB,5,none⟩=some (sO gl ol r.loops.length c4)/\W.cell? ⟨gl,ol+j*3,none⟩=some (iZ (hd:Int))/\W.cell? ⟨gl,ol+j*3+1,none⟩=some (.slice a1 l.back.length x1)/\W.cell? ⟨gl,ol+j*3+2,none⟩=some (.slice a2 l.blocks.length x2)/\W.cell? ⟨gb,ob+hd*3,none⟩=some (iZ (ja:Int))):=fun W hW=>⟨⟨Ad hW (BD E5.o.1.pb).1,Ad hW (BD E5.o.1.pb).2.1,Ad hW (BD E5.o.1.pb).2.2.1,Ad hW (BD E5.o.1.pb).2.2.2⟩,Ad hW (ER E5.o.2.1).2.2.1,Ad hW (ER E5.o.2.1).2.2.2.2.2,Ad hW i0,Ad hW i1,Ad hW i2,Ad hW j0⟩
   clear i0 i1 i2 j0 e2 e3 ehd hbls hbl1 hbl2 hlm hl hhb hrl hae hel;go_upto_region 11 with fail
   clear y5;have E8:Hid (Below U.heap.size U wr.drew/\wr.drew.ownsRow U.heap.size 2 1 (.slice aV zs.length cV) zs.length (zs.flatMap Ac)):=⟨Ab E7.o.1 lR (Ae _),Ah E7.o.2 (Ae _) lR⟩
   refine wp_region_held_drew (S:=fun W=>W.cell? ⟨FB,2,none⟩=some (sO gb ob r.blocks.length c1)/\W.cell? ⟨FB,5,none⟩=some (sO gl ol r.loops.length c4)/\W.cell? ⟨gl,ol+j*3,none⟩=some (iZ (hd:Int))/\W.cell? ⟨gb,ob+hd*3,none⟩=some (iZ (ja:Int))) (by kernel_rfl) (by obtain⟨_,h5,h6,h7,_,_,h8⟩:=HC.o _ E8.o.1;exact⟨h5,h6,h7,h8⟩) (fun hHeld=> ?_)
   clear E7;generalize wr.drew=UD at E8 hHeld⊢;refine Ar 0 ?_;refine Ar 1 ?_;refine Ar 2 ?_;refine Ar 3 ?_;refine Ar 4 ?_;refine Ar 5 ?_;refine Ar 6 ?_;refine Ar 7 ?_;refine Ar 8 ?_;refine Ar 9 ?_;refine Ar 10 ?_;refine Ar 11 ?_;refine wpAnyH_done (by kernel_rfl) ?_ _;go_simp;go_upto_region 12 with fail
   have E9:Hid (Below U.heap.size U UD.drew/\UD.drew.ownsRow U.heap.size 2 1 (.slice aV zs.length cV) zs.length (zs.flatMap Ac)):=⟨Ab E8.o.1 lR (Ae _),Ah E8.o.2 (Ae _) lR⟩
   refine wp_region_held_drew (S:=fun W=>W.cell? ⟨X,0,none⟩=some (.slice r1 p.regions.length r3)/\W.cell? ⟨X,1,none⟩=some (.slice k1 p.consts.length k3)/\W.cell? ⟨X,2,none⟩=some (sO gk ok p.funcs.length f3)/\W.cell? ⟨X,3,none⟩=some (.slice t1 p.certs.length t3)/\W.cell? ⟨FB,5,none⟩=some (sO gl ol r.loops.length c4)/\W.cell? ⟨gl,ol+j*3,none⟩=some (iZ (hd:Int))/\W.cell? ⟨gl,ol+j*3+1,none⟩=some (.slice a1 l.back.length x1)/\W.cell? ⟨gl,ol+j*3+2,none⟩=some (.slice a2 l.blocks.length x2)) (by kernel_rfl) (by obtain⟨⟨h1,h2,h3,h4⟩,_,h6,h7,h8,h9,_⟩:=HC.o _ E9.o.1;exact⟨h1,h2,h3,h4,h6,h7,h8,h9⟩) (fun hHeld=> ?_)
   clear E8;generalize UD.drew=UE at E9 hHeld⊢;refine Ar 0 ?_;refine Ar 1 ?_;refine Ar 2 ?_;refine Ar 3 ?_;refine Ar 4 ?_;refine Ar 5 ?_;refine Ar 6 ?_;refine FL 7 ?_;intro KC hKC;go_simp;have hcon:=Ip ⟨.slice r1 p.regions.length r3,.slice k1 p.consts.length k3,sO gk ok p.funcs.length f3,.slice t1 p.certs.length t3⟩ p (q:Int) ⟨.slice a1 l.back.length x1,.slice a2 l.blocks.length x2⟩ l UE H.o.1 H.o.2.1 H.o.2.2.2.2.2.2.2 (H.o.2.2.2.1.keep (E5.o.1.keep E9.o.1).bd.bel lR) HZ.o.2.2 (HZ.o.1.keep E9.o.1 lR);rw[HZ.o.2.1]at hcon;refine hcon.mono ?_;clear hcon;rintro e u6 ⟨⟨nf,rfl,hnf⟩,bb⟩;have E10:=Af (aG (Ab E9.o.1 lR bb) (Ah E9.o.2 bb lR));clear hnf bb;refine hKC.o _ _ (by obtain⟨⟨h1,h2,h3,h4⟩,_,h6,h7,h8,h9,_⟩:=HC.o _ E10.o.1;exact⟨h1,h2,h3,h4,h6,h7,h8,h9⟩) (fun hHeld=> ?_);refine Ar 8 ?_;refine wpAnyH_done (by kernel_rfl) ?_ _;clear hHeld;go_simp;clear E9 HC;by_cases hn0:nf=0
   case neg=>
    have hn0':(nf != 0)=true:=by simpa using hn0
    have E11:Hid _:=E5.o.1.keep E10.o.1;obtain⟨a0,a1',a2,a3,a4⟩:=CD E11.o.rb;obtain⟨fz0,fz1,fz2,fz3,fz4⟩:=IA E11.o.rb;go_wp2_with fail
    have G:Hid _:=((((E11.o.rb.set 0 (iZ 5)).set 1 (iZ (q:Int))).set 2 (iZ (ja:Int))).set 3 sN).set 4 sN;simp only[aY,au,aw]at G;clear a0 a1' a2 a3 a4;obtain⟨a0,a1',a2,a3,a4⟩:=CD G.o;exact aW (v:=.agg #[iZ 5,iZ (q:Int),iZ (ja:Int),sN,sN]) (by simp[results,Tryz.results60,go_sem,a0,a1',a2,a3,a4]) rfl ⟨5,(q:Int),(ja:Int),rfl,(E11.o.bd.set5 _ _ _ _ _).bel,(E11.o.bd.set5 _ _ _ _ _)⟩
   subst hn0;have EA:Hid (Below U.heap.size U (u6.alloc (.cells #[iZ (ja:Int)] 2))/\(u6.alloc (.cells #[iZ (ja:Int)] 2)).ownsRow U.heap.size 2 1 (.slice aV zs.length cV) zs.length (zs.flatMap Ac)):=⟨Ab E10.o.1 lR (Aa _ _),Ah E10.o.2 (Aa _ _) lR⟩
   generalize hm:zs.length=m at hzl EA⊢;have HM:=Af hm;clear hm;go_wp2_with (first|(at_builtin;refine wpList_append_lies _ rfl _ _ 47 rfl U.heap.size 2 i64 (iZ 0) 1 8 Tryz.underlying47 hi hz0 hz1 hz2 rfl (by decide) (.slice aV m cV) m (zs.flatMap Ac) rfl EA.o.2 ⟨u6.heap.size,0,none⟩ 1 1 [iZ (ja:Int)] rfl rfl (De u6 _ _) (FI _) (by omega) (by unfold maxLen;omega) (by omega) EA.o.1.size _ rfl ?_;intro g5 cap5 w5 hown5 hgrow5 hat5 hlt5;have E12:Hid (Below U.heap.size U w5/\w5.ownsRow U.heap.size 2 1 (sG g5 (m+1) cap5) (m+1) ((zs++[(ja:Int)]).flatMap Ac)):=⟨EA.o.1.grown hgrow5 EA.o.1.size (fun q hq=>(EA.o.2.lt q hq).1),by rw[<-MR];exact hown5⟩;clear hown5 hgrow5 hat5 hlt5)|go_in)
   have hml:(zs++[(ja:Int)]).length=m+1:=by rw[aH,HM.o];rfl
   clear EA;go_roundw
   case rel=>exact⟨j+1,some ⟨g5,0,none⟩,zs++[(ja:Int)],cap5,by omega,by rw[hml],by go_num,by omega,E12.o.1,by rw[hml];exact E12.o.2⟩
   case measure=>simp[intOf];omega
  case neg=>
   go_wp2_with fail
   clear y5;generalize hm:zs.length=m at hzl E7⊢;have HM:=Af hm;go_loopw [14] (fun i wr'=>∃j:Nat,j<=p.certs.length/\i=iZ j/\wr'=wr) (fun i _=>p.certs.length-(intOf i).toNat)
   case atStart=>exact⟨0,by omega,rfl,rfl⟩
   case round=>
    obtain⟨k,hk,rfl,rfl⟩:=hrel;have p3:=Ad E7.o.1 (BD E5.o.1.pb).2.2.2;by_cases hlk:k<p.certs.length
    case pos=>
     have hlkI:(k:Int)<(p.certs.length:Int):=by omega
     obtain⟨ct,hct⟩:∃c,p.certs[k]?=some c:=⟨_,aA hlk⟩
     obtain⟨gt,ot,et,ht0,ht1⟩:∃gt ot,t1=some ⟨gt,ot,none⟩/\w.cell? ⟨gt,ot+k*4,none⟩=some (iZ ct.func)/\w.cell? ⟨gt,ot+k*4+1,none⟩=some (iZ ct.head):=by
      rcases H.o.2.2.2.1.certs.2 with⟨e0,_⟩|⟨gt,ot,c',e1,hc⟩
      . omega
      . simp only[aI,ao]at e1
        exact⟨gt,ot,e1.1,Rd.elem MT.cells_length hc k ct hct 0 _ rfl,Rd.elem MT.cells_length hc k ct hct 1 _ rfl⟩
     subst et;have E8:Hid _:=E5.o.1.keep E7.o.1;have c0:=Ad E8.o.bd.bel ht0;have c1':=Ad E8.o.bd.bel ht1;have HR:Hid (Rd wr 1 (.slice aV zs.length cV) zs.length (zs.flatMap Ac)):=by have:=Rd.of_own E7.o.2;rw[HM.o];exact this
     rw[HM.o]at HR;clear ht0 ht1 hct;cases hfq:(ct.func==(q:Int))
     case false=>
      go_wp2_with fail
      go_roundw
      case rel=>exact⟨k+1,by omega,by go_num,trivial⟩
      case measure=>simp[intOf];omega
     case true=>
      go_wp2_with fail
      refine(Dx (.slice aV m cV) zs ct.head wr (by rw[HM.o];omega) (by rw[HM.o];exact HR.o)).mono ?_;rintro e u3 ⟨⟨bb,rfl,hq0⟩,rfl⟩;clear hq0;cases bb
      case true=>
       go_wp2_with fail
       go_roundw
       case rel=>exact⟨k+1,by omega,by go_num,trivial⟩
       case measure=>simp[intOf];omega
      case false=>
       skip
       obtain⟨a0,a1',a2,a3,a4⟩:=CD E8.o.rb;obtain⟨fz0,fz1,fz2,fz3,fz4⟩:=IA E8.o.rb;go_wp2_with fail
       have G:Hid _:=((((E8.o.rb.set 0 (iZ 6)).set 1 (iZ (q:Int))).set 2 (iZ ct.head)).set 3 sN).set 4 sN;simp only[aY,au,aw]at G;clear a0 a1' a2 a3 a4;obtain⟨a0,a1',a2,a3,a4⟩:=CD G.o;exact aW (v:=.agg #[iZ 6,iZ (q:Int),iZ ct.head,sN,sN]) (by simp[results,Tryz.results60,go_sem,a0,a1',a2,a3,a4]) rfl ⟨6,(q:Int),ct.head,rfl,(E8.o.bd.set5 _ _ _ _ _).bel,(E8.o.bd.set5 _ _ _ _ _)⟩
    case neg=>
     obtain⟨C,hC1,hC2⟩:=(E5.o.1.keep E7.o.1).bd.c;have E8:=Af (aG (E5.o.1.keep E7.o.1) (aG (E5.o.2.1.keep E7.o.1) (aG (E5.o.2.2.1.keepL E7.o.1 lR) (aG (E5.o.2.2.2.1.keep E7.o.1) (E5.o.2.2.2.2.keep E7.o.1)))));have HCR:=Af (aG hC1 (Rd.of_own hC2));clear hC1 hC2 E7 p3;obtain⟨p0,p1,p2,p3⟩:=BD E8.o.1.pb;go_wp2_with fail
     refine(II ⟨.slice r1 p.regions.length r3,.slice k1 p.consts.length k3,sO gk ok p.funcs.length f3,.slice t1 p.certs.length t3⟩ p (q:Int) (sG gc p.funcs.length cc) C wr H.o.1 H.o.2.1 H.o.2.2.2.2.2.2.2 (H.o.2.2.2.1.keep E8.o.1.bd.bel lR) (by rw[HCR.o.1];exact HCR.o.2) (by rw[HCR.o.1];exact hps)).mono ?_;rintro e u6 ⟨⟨nc,rfl,hnc⟩,bb⟩;have E9:=Af (aG (E8.o.1.keep bb) (aG (E8.o.2.1.keep bb) (aG (E8.o.2.2.1.keepL bb lR) (aG (E8.o.2.2.2.1.keep bb) (E8.o.2.2.2.2.keep bb)))));clear bb E8 HCR p0 p1 p2 p3 hnc;obtain⟨⟨zc,d0⟩,d1,hset⟩:=E9.o.1.bd.cost hq
     have EB:Hid (Qg w u (u6.setCell ⟨gc,q,none⟩ (iZ nc)) X gc cc gd cd p.funcs.length #[.slice r1 p.regions.length r3,.slice k1 p.consts.length k3,sO gk ok p.funcs.length f3,.slice t1 p.certs.length t3]/\Ap (u6.setCell ⟨gc,q,none⟩ (iZ nc)) TB #[iZ y.code,iZ y.at_,iZ y.depth,.slice sa y.shapes.length sc] 166/\NE (u6.setCell ⟨gc,q,none⟩ (iZ nc)) (.slice sa y.shapes.length sc) y.shapes.length/\(u6.setCell ⟨gc,q,none⟩ (iZ nc)).cell? ⟨gc,q,none⟩=some (iZ nc)):=⟨⟨(hset nc).1,E9.o.1.pb.other (a:=⟨gc,q,none⟩) (by show X≠gc;omega) _,E9.o.1.rb.other (a:=⟨gc,q,none⟩) (by show X+1≠gc;omega) _⟩,E9.o.2.2.2.1.other (a:=⟨gc,q,none⟩) (by show TB≠gc;omega) _,E9.o.2.2.2.2.set d0 _,(hset nc).2⟩
     clear hset;go_upto_region 21 with fail
     refine An (fun U=>Hid (Qg w u U X gc cc gd cd p.funcs.length #[.slice r1 p.regions.length r3,.slice k1 p.consts.length k3,sO gk ok p.funcs.length f3,.slice t1 p.certs.length t3]/\Ap U TB #[iZ y.code,iZ y.at_,iZ y.depth,.slice sa y.shapes.length sc] 166/\NE U (.slice sa y.shapes.length sc) y.shapes.length/\U.cell? ⟨gc,q,none⟩=some (iZ nc))) EB ?_
     clear EB;rintro U2 EB;have d0:=EB.o.2.2.2;by_cases hn0:nc<0
     case pos=>
      skip
      obtain⟨a0,a1',a2,a3,a4⟩:=CD EB.o.1.rb;obtain⟨fz0,fz1,fz2,fz3,fz4⟩:=IA EB.o.1.rb;go_wp2_with fail
      have G:Hid _:=((((EB.o.1.rb.set 0 (iZ 7)).set 1 (iZ (q:Int))).set 2 (iZ 0)).set 3 sN).set 4 sN;simp only[aY,au,aw]at G;clear a0 a1' a2 a3 a4;obtain⟨a0,a1',a2,a3,a4⟩:=CD G.o;exact aW (v:=.agg #[iZ 7,iZ (q:Int),iZ 0,sN,sN]) (by simp[results,Tryz.results60,go_sem,a0,a1',a2,a3,a4]) rfl ⟨7,(q:Int),0,rfl,(EB.o.1.bd.set5 _ _ _ _ _).bel,(EB.o.1.bd.set5 _ _ _ _ _)⟩
     obtain⟨D,hD1,hD2⟩:=EB.o.1.bd.d;have HDR:=Af (aG hD1 (Rd.of_own hD2));clear hD1 hD2;obtain⟨p0,p1,p2,p3⟩:=BD EB.o.1.pb;obtain⟨z0,z1,z2,z3⟩:=BD EB.o.2.1;go_wp2_with fail
     refine(Na ⟨.slice r1 p.regions.length r3,.slice k1 p.consts.length k3,sO gk ok p.funcs.length f3,.slice t1 p.certs.length t3⟩ p q f y (.slice sa y.shapes.length sc) (sG gd p.funcs.length cd) D U2 H.o.1 H.o.2.2.1 (H.o.2.2.2.1.keep EB.o.1.bd.bel lR) H.o.2.2.2.2.1 EB.o.2.2.1 HYL.o (by rw[HDR.o.1];exact HDR.o.2) HDR.o.1).mono ?_;rintro e u7 ⟨⟨nd,rfl⟩,bb⟩;have EC:=Af (EB.o.1.keep bb);obtain⟨⟨zd,d0⟩,d1,hset⟩:=EC.o.bd.depth hq;have ED:=Af (aG ((⟨(hset nd).1,EC.o.pb.other (a:=⟨gd,q,none⟩) (by show X≠gd;omega) _,EC.o.rb.other (a:=⟨gd,q,none⟩) (by show X+1≠gd;omega) _⟩):Qg w u (u7.setCell ⟨gd,q,none⟩ (iZ nd)) X gc cc gd cd p.funcs.length #[.slice r1 p.regions.length r3,.slice k1 p.consts.length k3,sO gk ok p.funcs.length f3,.slice t1 p.certs.length t3]) ((hset nd).2));clear hset;go_upto_region 24 with fail
     clear EC d0 d1;refine An (fun U=>Hid (Qg w u U X gc cc gd cd p.funcs.length #[.slice r1 p.regions.length r3,.slice k1 p.consts.length k3,sO gk ok p.funcs.length f3,.slice t1 p.certs.length t3]/\U.cell? ⟨gd,q,none⟩=some (iZ nd))) ED ?_
     clear ED;rintro U3 ED;have d0:=ED.o.2;by_cases hn6:nd>64
     case pos=>
      skip
      obtain⟨a0,a1',a2,a3,a4⟩:=CD ED.o.1.rb;obtain⟨fz0,fz1,fz2,fz3,fz4⟩:=IA ED.o.1.rb;go_wp2_with fail
      have G:Hid _:=((((ED.o.1.rb.set 0 (iZ 8)).set 1 (iZ (q:Int))).set 2 (iZ 0)).set 3 sN).set 4 sN;simp only[aY,au,aw]at G;obtain⟨a0,a1',a2,a3,a4⟩:=CD G.o;exact aW (v:=.agg #[iZ 8,iZ (q:Int),iZ 0,sN,sN]) (by simp[results,Tryz.results60,go_sem,a0,a1',a2,a3,a4]) rfl ⟨8,(q:Int),0,rfl,(ED.o.1.bd.set5 _ _ _ _ _).bel,(ED.o.1.bd.set5 _ _ _ _ _)⟩
     obtain⟨a0,a1',a2,a3,a4⟩:=CD ED.o.1.rb;obtain⟨fz0,fz1,fz2,fz3,fz4⟩:=IA ED.o.1.rb;go_wp2_with fail
     have G:Hid _:=((((ED.o.1.rb.set 0 (iZ 0)).set 1 (iZ 0)).set 2 (iZ 0)).set 3 sN).set 4 sN;simp only[aY,au,aw]at G;clear a0 a1' a2 a3 a4;obtain⟨a0,a1',a2,a3,a4⟩:=CD G.o;exact aW (v:=.agg #[iZ 0,iZ 0,iZ 0,sN,sN]) (by simp[results,Tryz.results60,go_sem,a0,a1',a2,a3,a4]) rfl ⟨0,0,0,rfl,(ED.o.1.bd.set5 _ _ _ _ _).bel,(ED.o.1.bd.set5 _ _ _ _ _)⟩
end Go.Proofs.YtjcamlobelcepaaGreatDoor
