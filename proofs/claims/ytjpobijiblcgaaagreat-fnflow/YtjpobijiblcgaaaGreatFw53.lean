import Derived.Test.YtjpobijiblcgaaaGreatFw0
import Derived.Test.YtjpobijiblcgaaaGreatFw52
import Derived.Test.YtjpobijiblcgaaaGreatFw4
import Derived.Test.YtjpobijiblcgaaaGreatFw5
namespace Go.Proofs.YtjpobijiblcgaaaGreat
open Go.ChangeShapes Go.WideShapes Go.ChangeAt Go.RowKit
set_option linter.unusedVariables false
set_option maxHeartbeats 4000000
set_option maxRecDepth 100000
structure Mb(u U:World)(s:Cv)(p:Int)(RB X:Nat)(n:Nat)(v:VP)(x:MP):Prop where
 bl:Bs u U s p [gb RB vN,gb X v]
 ex:∃b t,Cw b t U v x/\(X<b\/t<=X)/\RB<b/\u.heap.size<=b/\t<=U.heap.size
 pb:PB n x
section
variable {u U U':World} {s:Cv} {p p':Int} {RB X n:Nat} {v v':VP} {x x':MP}
theorem Mb.draw(h:Mb u U s p RB X n v x)(hs:CU U' s.S s.a s.len s.cap p')(hd:AC s.S U U'):Mb u U' s p' RB X n v x:=by
 obtain⟨b,t,h1,h2,h3,h4,h5⟩:=h.ex;exact⟨h.bl.draw hs hd,⟨b,t,h1.draw hd (by have:=h.bl.bel.lo;omega) h5,h2,h3,h4,aY h5 hd.size⟩,h.pb⟩
theorem Mb.rd(h:Mb u U s p RB X n v x):Pu s U v x:=by
 obtain⟨b,t,⟨F,G,k1,k2,k3⟩,h2,h3,h4,h5⟩:=h.ex;exact⟨F,G,k1,k2,fun u2 hd=>k3 u2 fun k h6 h7=>hd.block k (by omega) (by have:=h.bl.bel.lo;omega)⟩
theorem Mb.new(h:Bs u U s p [gb RB vN]){b:Nat}(ht:Cw b U.heap.size U v x)(hR:RB<b)(hb:u.heap.size<=b)(hp:PB n x):Mb u (U.alloc (.cells #[v.r,v.k,v.f,v.t] 65)) s p RB U.heap.size n v x:=
 ⟨h.box 65 4 [v.r,v.k,v.f,v.t] rfl,⟨b,U.heap.size,ht.below (Aa _ _) lR,.inr lR,hR,hb,(Aa _ _).size⟩,hp⟩
theorem Mb.cells(h:Mb u U s p RB X n v x):(U.cell? ⟨X,0,none⟩=some v.r/\U.cell? ⟨X,1,none⟩=some v.k/\U.cell? ⟨X,2,none⟩=some v.f/\U.cell? ⟨X,3,none⟩=some v.t)/\(U.frozen? ⟨X,0,none⟩=false/\U.frozen? ⟨X,1,none⟩=false/\U.frozen? ⟨X,2,none⟩=false/\U.frozen? ⟨X,3,none⟩=false):=h.bl.four (P:=X) (v:=v) (by simp)
theorem Mb.lt(h:Mb u U s p RB X n v x):X<U.heap.size/\RB<U.heap.size:=⟨(h.bl.sep.lt (gb X v) (by simp) X rfl).2,(h.bl.sep.lt (gb RB vN) (by simp) RB rfl).2⟩
theorem Mb.put{n':Nat}(h:Mb u U s p RB X n v x)(hs:CU U' s.S s.a s.len s.cap p')(hd:AC s.S U U')(ht:Cw U.heap.size U'.heap.size U' v' x')(hp:PB n' x'):Mb u ((((U'.setCell ⟨X,0,none⟩ v'.r).setCell ⟨X,1,none⟩ v'.k).setCell ⟨X,2,none⟩ v'.f).setCell ⟨X,3,none⟩ v'.t) s p' RB X n' v' x'/\(U'.cell? ⟨X,0,none⟩=some v.r/\U'.cell? ⟨X,1,none⟩=some v.k/\U'.cell? ⟨X,2,none⟩=some v.f/\U'.cell? ⟨X,3,none⟩=some v.t)/\(U'.frozen? ⟨X,0,none⟩=false/\U'.frozen? ⟨X,1,none⟩=false/\U'.frozen? ⟨X,2,none⟩=false/\U'.frozen? ⟨X,3,none⟩=false):=by
 have h0:=h.draw hs hd;have hl:=h.lt;have h1:Bs u U' s p' ([gb RB vN]++gb X v::[]):=h0.bl;have h2:=(((h1.set 0 (by omega) v'.r).set 1 (by omega) v'.k).set 2 (by omega) v'.f).set 3 (by omega) v'.t;refine⟨⟨h2,⟨U.heap.size,U'.heap.size,(((ht.set _ (.inl hl.1) _).set _ (.inl hl.1) _).set _ (.inl hl.1) _).set _ (.inl hl.1) _,.inl hl.1,hl.2,h.bl.size,by simp⟩,hp⟩,h0.cells⟩
theorem Mb.fin{m:Int}(h:Mb u U s p' RB X n v x)(h1:p<=p')(h2:p'<=p+m){e:Ending}(he:e=.returned (.agg #[v.r,v.k,v.f,v.t])):Ij s p m n u e ((((U.setCell ⟨RB,0,none⟩ v.r).setCell ⟨RB,1,none⟩ v.k).setCell ⟨RB,2,none⟩ v.f).setCell ⟨RB,3,none⟩ v.t):=by
 obtain⟨b,t,g1,g2,g3,g4,g5⟩:=h.ex;have k1:Bs u U s p' ([]++gb RB vN::[gb X v]):=h.bl;have k2:=(((k1.set 0 (by omega) v.r).set 1 (by omega) v.k).set 2 (by omega) v.f).set 3 (by omega) v.t;exact⟨v,x,he,((((g1.set _ (.inl g3) _).set _ (.inl g3) _).set _ (.inl g3) _).set _ (.inl g3) _).wide g4 (by simpa using g5),h.pb,p',h1,h2,k2.bel.src,k2.bel.drw⟩
end
theorem Ij.mono{s:Cv}{p m m':Int}{n n':Nat}{u u':World}{e:Ending}(h:Ij s p m n u e u')(hm:m<=m')(hn:n<=n'):Ij s p m' n' u e u':=by
 obtain⟨v,x,h1,h2,h3,p',h4,h5,h6⟩:=h;exact⟨v,x,h1,h2,h3.mono hn,p',h4,by omega,h6⟩
section
variable {u U:World} {s:Cv} {p:Int} {RB X n:Nat} {v:VP} {x:MP}
theorem Mb.rb(h:Mb u U s p RB X n v x):((U.cell? ⟨RB,0,none⟩=some (.slice none 0 0)/\U.cell? ⟨RB,1,none⟩=some (.slice none 0 0)/\U.cell? ⟨RB,2,none⟩=some (.slice none 0 0)/\U.cell? ⟨RB,3,none⟩=some (.slice none 0 0))/\(U.frozen? ⟨RB,0,none⟩=false/\U.frozen? ⟨RB,1,none⟩=false/\U.frozen? ⟨RB,2,none⟩=false/\U.frozen? ⟨RB,3,none⟩=false))/\Bs u ((((U.setCell ⟨RB,0,none⟩ v.r).setCell ⟨RB,1,none⟩ v.k).setCell ⟨RB,2,none⟩ v.f).setCell ⟨RB,3,none⟩ v.t) s p [gb RB v,gb X v]:=by
 have k1:Bs u U s p ([]++gb RB vN::[gb X v]):=h.bl;exact⟨h.bl.four (P:=RB) (v:=vN) (by simp),(((k1.set 0 (by omega) v.r).set 1 (by omega) v.k).set 2 (by omega) v.f).set 3 (by omega) v.t⟩
end
theorem J6(hB:Gy)(u:World)(s:Cv)(p k:Int)(hs:CU u s.S s.a s.len s.cap p)(hp:p+3000000300<=100000000000)(hk:1<=k)(hk':k<=1000000):
 Calls Tryz.prog 23 #[.pointer (some ⟨s.S,0,none⟩),.int .i64 k] u (Ij s p 3000000300 100002 u):=by
 have hp0:=hs.low;have E0:=Ah ((Bs.start ⟨AC.refl _ _,hs,hs.lt⟩).box 65 4 [.slice none 0 0,.slice none 0 0,.slice none 0 0,.slice none 0 0] rfl);clear hs;go_enter Tryz.func23,Tryz.ntmps23;go_upto_region 1 with fail
 generalize u.heap.size=RB at E0⊢;refine Al (fun U=>Hid (Bs u U s p [gb RB vN])) E0 ?_;clear E0;rintro U0 E0;go_wp2_with fail
 refine(Iz _ s p E0.o.bel.src (by omega)).mono ?_;rintro e U1 ⟨v,x,rfl,ht,hpb,h3,p1,h1a,h1b,hs1,hd1⟩;have H3:=Ah h3;clear h3;obtain⟨a11,c11,a12,c12,a13,c13,a14,c14,ev⟩:=ht.rd.sl4;subst ev;have E1:=Ah (Mb.new (v:=⟨.slice a11 x.regions.length c11,.slice a12 x.consts.length c12,.slice a13 x.funcs.length c13,.slice a14 x.certs.length c14⟩) (E0.o.draw hs1 hd1) ht (E0.o.sep.lt (gb RB vN) (by simp) RB rfl).2 E0.o.size hpb);clear E0 hs1 hd1 ht hpb;go_upto_region 2 with fail
 generalize U1.heap.size=X at E1⊢;refine Al (fun U=>Hid (Mb u U s p1 RB X 100000 ⟨.slice a11 x.regions.length c11,.slice a12 x.consts.length c12,.slice a13 x.funcs.length c13,.slice a14 x.certs.length c14⟩ x)) E1 ?_;clear E1;clear U1;rintro U2 E2;go_wp2_with fail
 refine(AF E2.o.bl.bel.src (by omega) hk hk').mono ?_;rintro e U3 ⟨q,rfl,hs,hd⟩;have E3:=Ah (E2.o.draw hs hd);clear hs hd E2;cases q
 case false=>
  obtain⟨k0,k1,k2,k3⟩:=E3.o.cells.1;obtain⟨y0,y1,y2,y3⟩:=E3.o.rb.1.1;obtain⟨z0,z1,z2,z3⟩:=E3.o.rb.1.2;simp only[]at k0 k1 k2 k3;go_wp2_with fail
  have HF4:Hid _:=(E3.o.rb.2.four (P:=RB) (v:=⟨.slice a11 x.regions.length c11,.slice a12 x.consts.length c12,.slice a13 x.funcs.length c13,.slice a14 x.certs.length c14⟩) (by simp)).1;obtain⟨w0,w1,w2,w3⟩:=HF4.o;simp only[]at w0 w1 w2 w3;exact aT (v:=.agg #[.slice a11 x.regions.length c11,.slice a12 x.consts.length c12,.slice a13 x.funcs.length c13,.slice a14 x.certs.length c14]) (by simp[results,Tryz.results23,go_sem,w0,w1,w2,w3]) rfl ((E3.o.fin (p:=p) (m:=3000000300) (by omega) (by omega) rfl).mono (by omega) (by omega))
 case true=>
  obtain⟨k0,k1,k2,k3⟩:=E3.o.cells.1;simp only[]at k0 k1 k2 k3;go_wp2_with fail
  refine(hB _ s _ ⟨.slice a11 x.regions.length c11,.slice a12 x.consts.length c12,.slice a13 x.funcs.length c13,.slice a14 x.certs.length c14⟩ x 100000 E3.o.bl.bel.src (by omega) E3.o.rd E3.o.pb H3.o (by omega)).mono ?_;rintro e U4 ⟨v,x2,rfl,ht,hpb,p4,p4a,p4b,hs,hd⟩;obtain⟨a21,c21,a22,c22,a23,c23,a24,c24,ev⟩:=ht.rd.sl4;subst ev;have EP:Hid _:=E3.o.put hs hd ht hpb;clear hs hd ht hpb k0 k1 k2 k3 E3;obtain⟨k0,k1,k2,k3⟩:=EP.o.2.1;obtain⟨z0,z1,z2,z3⟩:=EP.o.2.2;simp only[]at k0 k1 k2 k3;go_upto_region 4 with fail
  refine Al (fun U=>Hid (Mb u U s p4 RB X 100001 ⟨.slice a21 x2.regions.length c21,.slice a22 x2.consts.length c22,.slice a23 x2.funcs.length c23,.slice a24 x2.certs.length c24⟩ x2)) (show Hid _ from EP.o.1) ?_;clear k0 k1 k2 k3 z0 z1 z2 z3 EP;clear U4;rintro U5 E5;go_wp2_with fail
  refine(AF E5.o.bl.bel.src).mono ?_;rintro e U6 ⟨q,rfl,hs,hd⟩;have E6:=Ah (E5.o.draw hs hd);clear hs hd E5;obtain⟨g0,g1,g2,g3⟩:=E6.o.cells.1;simp only[]at g0 g1 g2 g3;cases q
  case false=>
   go_upto_region 6 with fail
   clear g0 g1 g2 g3;obtain⟨k0,k1,k2,k3⟩:=E6.o.cells.1;obtain⟨y0,y1,y2,y3⟩:=E6.o.rb.1.1;obtain⟨z0,z1,z2,z3⟩:=E6.o.rb.1.2;simp only[]at k0 k1 k2 k3;go_wp2_with fail
   have HF4:Hid _:=(E6.o.rb.2.four (P:=RB) (v:=⟨.slice a21 x2.regions.length c21,.slice a22 x2.consts.length c22,.slice a23 x2.funcs.length c23,.slice a24 x2.certs.length c24⟩) (by simp)).1;obtain⟨w0,w1,w2,w3⟩:=HF4.o;simp only[]at w0 w1 w2 w3;exact aT (v:=.agg #[.slice a21 x2.regions.length c21,.slice a22 x2.consts.length c22,.slice a23 x2.funcs.length c23,.slice a24 x2.certs.length c24]) (by simp[results,Tryz.results23,go_sem,w0,w1,w2,w3]) rfl ((E6.o.fin (p:=p) (m:=3000000300) (by omega) (by omega) rfl).mono (by omega) (by omega))
  case true=>
   cases hq:((x2.regions.length:Int)==3)
   case false=>
    go_upto_region 6 with fail
    clear g0 g1 g2 g3 hq;obtain⟨k0,k1,k2,k3⟩:=E6.o.cells.1;obtain⟨y0,y1,y2,y3⟩:=E6.o.rb.1.1;obtain⟨z0,z1,z2,z3⟩:=E6.o.rb.1.2;simp only[]at k0 k1 k2 k3;go_wp2_with fail
    have HF4:Hid _:=(E6.o.rb.2.four (P:=RB) (v:=⟨.slice a21 x2.regions.length c21,.slice a22 x2.consts.length c22,.slice a23 x2.funcs.length c23,.slice a24 x2.certs.length c24⟩) (by simp)).1;obtain⟨w0,w1,w2,w3⟩:=HF4.o;simp only[]at w0 w1 w2 w3;exact aT (v:=.agg #[.slice a21 x2.regions.length c21,.slice a22 x2.consts.length c22,.slice a23 x2.funcs.length c23,.slice a24 x2.certs.length c24]) (by simp[results,Tryz.results23,go_sem,w0,w1,w2,w3]) rfl ((E6.o.fin (p:=p) (m:=3000000300) (by omega) (by omega) rfl).mono (by omega) (by omega))
   case true=>
    have H32:Hid (x2.regions.length=3):=by have:=hq;rw[beq_iff_eq]at this;exact(by omega:x2.regions.length=3)
    go_upto_region 5 with fail
    clear g0 g1 g2 g3 hq;obtain⟨k0,k1,k2,k3⟩:=E6.o.cells.1;simp only[]at k0 k1 k2 k3;go_wp2_with fail
    refine(hB _ s _ ⟨.slice a21 x2.regions.length c21,.slice a22 x2.consts.length c22,.slice a23 x2.funcs.length c23,.slice a24 x2.certs.length c24⟩ x2 100001 E6.o.bl.bel.src (by omega) E6.o.rd E6.o.pb H32.o (by omega)).mono ?_;rintro e U7 ⟨v,x3,rfl,ht,hpb,p7,p7a,p7b,hs,hd⟩;obtain⟨a31,c31,a32,c32,a33,c33,a34,c34,ev⟩:=ht.rd.sl4;subst ev;have EP:Hid _:=E6.o.put hs hd ht hpb;clear hs hd ht hpb k0 k1 k2 k3 E6;obtain⟨k0,k1,k2,k3⟩:=EP.o.2.1;obtain⟨z0,z1,z2,z3⟩:=EP.o.2.2;simp only[]at k0 k1 k2 k3;go_upto_region 6 with fail
    refine Al (fun U=>Hid (Mb u U s p7 RB X 100002 ⟨.slice a31 x3.regions.length c31,.slice a32 x3.consts.length c32,.slice a33 x3.funcs.length c33,.slice a34 x3.certs.length c34⟩ x3)) (show Hid _ from EP.o.1) ?_;clear k0 k1 k2 k3 z0 z1 z2 z3 EP;clear U7;rintro U8 E8;obtain⟨k0,k1,k2,k3⟩:=E8.o.cells.1;obtain⟨y0,y1,y2,y3⟩:=E8.o.rb.1.1;obtain⟨z0,z1,z2,z3⟩:=E8.o.rb.1.2;simp only[]at k0 k1 k2 k3;go_wp2_with fail
    have HF4:Hid _:=(E8.o.rb.2.four (P:=RB) (v:=⟨.slice a31 x3.regions.length c31,.slice a32 x3.consts.length c32,.slice a33 x3.funcs.length c33,.slice a34 x3.certs.length c34⟩) (by simp)).1;obtain⟨w0,w1,w2,w3⟩:=HF4.o;simp only[]at w0 w1 w2 w3;exact aT (v:=.agg #[.slice a31 x3.regions.length c31,.slice a32 x3.consts.length c32,.slice a33 x3.funcs.length c33,.slice a34 x3.certs.length c34]) (by simp[results,Tryz.results23,go_sem,w0,w1,w2,w3]) rfl ((E8.o.fin (p:=p) (m:=3000000300) (by omega) (by omega) rfl).mono (by omega) (by omega))
theorem Rp(r:Int)(h0:0<=r)(h1:r<7):∃v:Int,(#[iZ 0,iZ 25,iZ 26,iZ 27,iZ 29,iZ 0,iZ 26]:Array Value)[r.toNat]?=some (iZ v)/\0<=v/\v<=30:=by
 have h:r=0\/r=1\/r=2\/r=3\/r=4\/r=5\/r=6:=by omega
 rcases h with rfl|rfl|rfl|rfl|rfl|rfl|rfl<;>exact⟨_,rfl,by omega,by omega⟩
theorem Bs.first{w u:World}{s:Cv}{p:Int}{g c j:Nat}{code:List MI}(h:Bs w u s p [AK (sG g j c) code])(hl:code.length=j)(hj:0<j)(y:MI):Bs w ((((u.setCell ⟨g,0,none⟩ (iZ y.op)).setCell ⟨g,1,none⟩ (iZ y.a)).setCell ⟨g,2,none⟩ (iZ y.b)).setCell ⟨g,3,none⟩ (iZ y.c)) s p [AK (sG g j c) (code.set 0 y)]/\(∃a0 a1 a2 a3:Int,u.cell? ⟨g,0,none⟩=some (iZ a0)/\u.cell? ⟨g,1,none⟩=some (iZ a1)/\u.cell? ⟨g,2,none⟩=some (iZ a2)/\u.cell? ⟨g,3,none⟩=some (iZ a3))/\∀i,u.frozen? ⟨g,i,none⟩=false:=by
 subst hl
 obtain⟨x,r,rfl⟩:∃x r,code=x::r:=by
  cases code with
  |nil=>simp at hj
  |cons x r=>exact⟨x,r,rfl⟩
 have ho:u.ownsRow w.heap.size 43 4 (sG g (x::r).length c) (x::r).length ((x::r).flatMap MI.cells):=h.sep.own _ (am.2 rfl);have hlt:=(ho.lt g rfl).1;have hlen:4<=((x::r).flatMap MI.cells).length:=by simp[MI.cells]
 refine⟨⟨⟨fun q hq=> ?_,fA _ _⟩,(((h.bel.setCell (a:=⟨g,0,none⟩) hlt _).setCell (a:=⟨g,1,none⟩) hlt _).setCell (a:=⟨g,2,none⟩) hlt _).setCell (a:=⟨g,3,none⟩) hlt _⟩,⟨x.op,x.a,x.b,x.c,?_,?_,?_,?_⟩,fun i=>bz ho i⟩
 . rw[am.1 hq]
   have h4:=((((ho.stored 0 (iZ y.op)).1.stored 1 (iZ y.a)).1.stored 2 (iZ y.b)).1.stored 3 (iZ y.c)).1;exact h4
 . exact au ho 0 (by omega)
 . exact au ho 1 (by omega)
 . exact au ho 2 (by omega)
 . exact au ho 3 (by omega)
theorem Bs.more{w u u':World}{s:Cv}{p:Int}{V V':Value}{j:Nat}{code:List MI}{C:List Av}(h:Bs w u s p (AK V code::C))(hl:code.length=j)(y:MI)(ho:u'.ownsRow w.heap.size 43 4 V' (j+1) (code.flatMap MI.cells++y.cells))(hg:u.grownBy u' V.ownBlock)(hat:V'.ownBlock=V.ownBlock\/V'.ownBlock=some u.heap.size):Bs w u' s p [AK V' (code++[y])]:=by
 subst hl;have:=Bs.app (A:=[]) (C:=C) (r:=AK V code) h (AK V' (code++[y])) (by simpa[Av.own,AK]using ho) hg hat;exact this.sub (by simp)
theorem Ic(u:World)(k:Nat):Rd u k sN 0 []:=⟨by simp,.inl ⟨rfl,none,0,rfl⟩⟩
def QX(s:Cv)(u:World)(e:Ending)(u':World):Prop:=∃(a:Option Addr) (c:Nat) (xs:List MI),e=.returned (.slice a xs.length c)/\Rd u' 4 (.slice a xs.length c) xs.length (xs.flatMap MI.cells)/\xs.length<=200000/\(∀x∈xs,x.wf)/\AC s.S u u'
theorem K2(hB:Gy)(u:World)(s:Cv)(p:Int)(hs:CU u s.S s.a s.len s.cap p)(hp:p+4000000000<=100000000000):
 Calls Tryz.prog 8 #[.pointer (some ⟨s.S,0,none⟩)] u (QX s u):=by
 obtain⟨iI,hiI,hI0,hI1,hI2⟩:=bH KT;have hp0:=hs.low;have E0:=Ah (Bs.start ⟨AC.refl _ _,hs,hs.lt⟩);clear hs;go_enter Tryz.func8,Tryz.ntmps8;go_wp2_with fail
 refine(AF E0.o.bel.src).mono ?_;rintro e U1 ⟨q,rfl,hs,hd⟩;have E1:=Ah (E0.o.draw hs hd);clear hs hd E0;cases q
 case true=>
  go_wp2_with fail
  refine(J6 hB _ s _ 3 E1.o.bel.src (by omega) (by omega) (by omega)).mono ?_;rintro e U2 ⟨v,x,rfl,ht,hpb,p2,h2a,h2b,hs,hd⟩;obtain⟨a11,c11,a12,c12,a13,c13,a14,c14,ev⟩:=ht.rd.sl4;subst ev;have E2:=Ah (aH ((Bs.start (w:=U1) ⟨hd,hs,E1.o.bel.src.lt⟩).box 65 4 [.slice a11 x.regions.length c11,.slice a12 x.consts.length c12,.slice a13 x.funcs.length c13,.slice a14 x.certs.length c14] rfl) (aH ((ht.below (Aa _ _) lR):Cw U1.heap.size U2.heap.size (U2.alloc (.cells #[.slice a11 x.regions.length c11,.slice a12 x.consts.length c12,.slice a13 x.funcs.length c13,.slice a14 x.certs.length c14] 65)) ⟨.slice a11 x.regions.length c11,.slice a12 x.consts.length c12,.slice a13 x.funcs.length c13,.slice a14 x.certs.length c14⟩ x) (aH hpb (aH (((E1.o.bel.drw.trans hd).trans (.of_below (Aa _ _))):AC s.S u (U2.alloc (.cells #[.slice a11 x.regions.length c11,.slice a12 x.consts.length c12,.slice a13 x.funcs.length c13,.slice a14 x.certs.length c14] 65))) E1.o.bel.src.lt))));clear E1 hs hd ht hpb;go_upto_region 3 with fail
  generalize U2.heap.size=X at E2⊢;generalize U2.alloc (.cells #[.slice a11 x.regions.length c11,.slice a12 x.consts.length c12,.slice a13 x.funcs.length c13,.slice a14 x.certs.length c14] 65)=U at E2⊢;clear U2;obtain⟨gk,ok,ck,e,vc,hvc⟩:=E2.o.2.1.code (by have:=E2.o.2.2.1.fl;omega);simp only[aI,bU]at e;obtain⟨rfl,rfl⟩:=e;have HV:=Ah hvc;clear hvc;have hfl:=E2.o.2.2.1.fl;have hX:=(E2.o.1.sep.lt (gb X ⟨.slice a11 x.regions.length c11,.slice a12 x.consts.length c12,sO gk ok x.funcs.length c13,.slice a14 x.certs.length c14⟩) (by simp) X rfl).2;have k2:=(E2.o.1.four (P:=X) (v:=⟨.slice a11 x.regions.length c11,.slice a12 x.consts.length c12,sO gk ok x.funcs.length c13,.slice a14 x.certs.length c14⟩) (by simp)).1.2.2.1;simp only[]at k2;refine wp_region_held_drew (S:=fun W=>W.cell? ⟨X,2,none⟩=some (sO gk ok x.funcs.length c13)/\Hid (∀k,U1.heap.size<=k->k<X->W.heap[k]?=U.heap[k]?)) (by kernel_rfl) ⟨Ac (Ad _) k2,fun k h1 h2=>(Ad _).block k (by omega)⟩ (fun hHeld=> ?_)
  have ED:=Ah (aH (E2.o.1.keep (Ad _)) (aH (E2.o.2.2.2.1.trans (.of_below (Ad _))) ((fun k h1 h2=>(Ad _).block k (by omega)):(∀k,U1.heap.size<=k->k<X->U.drew.heap[k]?=U.heap[k]?))));have HP:=Ah (aH E2.o.2.2.1 E2.o.2.2.2.2);clear k2;clear hX E2;generalize U.drew=UD at ED hHeld⊢;refine Ak 0 ?_;refine Ak 1 ?_;refine Ak 2 ?_;refine Ak 3 ?_;refine Ak 4 ?_;refine Ak 5 ?_;refine rdH 6 ?_;intro KC hKC;go_simp;refine(Ai (n:=(x.funcs.length:Int)) ED.o.1.bel.src).mono ?_;rintro e U4 ⟨r,r0,r1,rfl,hs,hd⟩;obtain⟨rn,rfl⟩:=aq r0;have E4:=Ah (aH (ED.o.1.draw hs hd) (aH (ED.o.2.1.trans hd) ((fun k h1 h2=>by rw[hd.block k (by have:=(ED.o.1.sep.lt (gb X ⟨.slice a11 x.regions.length c11,.slice a12 x.consts.length c12,sO gk ok x.funcs.length c13,.slice a14 x.certs.length c14⟩) (by simp) X rfl).2;omega) (by have:=HP.o.2;omega)];exact ED.o.2.2 k h1 h2):(∀k,U1.heap.size<=k->k<X->U4.heap[k]?=U.heap[k]?))));have k4:=(E4.o.1.four (P:=X) (v:=⟨.slice a11 x.regions.length c11,.slice a12 x.consts.length c12,sO gk ok x.funcs.length c13,.slice a14 x.certs.length c14⟩) (by simp)).1.2.2.1;simp only[]at k4;clear hs hd ED;refine hKC.o _ _ (by exact⟨k4,E4.o.2.2⟩) (fun hHeld=> ?_);clear hKC KC;refine Ak 7 ?_
  refine Ak 8 ?_;obtain⟨f,hf⟩:∃f,x.funcs[rn]?=some f:=⟨_,aA (by omega)⟩;have HR:=(HV.o _ E4.o.2.2 rn f hf).2;obtain⟨av,cv,ev⟩:=HR.is_slice;have HW:Hid (∀W:World,(∀k,U1.heap.size<=k->k<X->W.heap[k]?=U.heap[k]?)->W.cell? ⟨gk,ok+rn*4+3,none⟩=some (.slice av f.code.length cv)):=fun W hW=>by rw[<-ev];exact(HV.o W hW rn f hf).1
  have HE:Hid (Rd U4 4 (.slice av f.code.length cv) f.code.length (f.code.flatMap MI.cells)/\f.code.length<=200000/\(∀x∈f.code,x.wf)/\AC s.S u U4):=⟨by rw[<-ev];exact HR,by have:=(HP.o.1.fs f (aE hf)).2.2;omega,(HP.o.1.wf.funcs f (aE hf)).code,E4.o.2.1⟩
  clear HR ev hf HV HP;refine wpAnyH_take (i:=9) (v:=.slice av f.code.length cv) rfl (by kernel_rfl) (by kernel_rfl) (by kernel_rfl) (fun _ _ _ h=>h) (Or.inl ⟨by rfl,?_⟩) (by assumption) ?_
  . (intro w hSw;obtain⟨hSa,hSb⟩:=hSw;have hc:=HW.o w hSb.o;go_simp;(try with_reducible rfl))
  refine Ak 10 ?_;refine wpAnyH_done (by kernel_rfl) ?_ _;clear hHeld;go_wp2_with fail
  go_ret
  exact⟨av,cv,f.code,rfl,HE.o⟩
 case false=>
  have E2:Hid (Bs u (U1.alloc (.cells #[] 43)) s (p+1) ([]++[AK (sG U1.heap.size 0 0) []])):=E1.o.row (Aa _ _) (A5 U1 _ _);clear E1;go_wp2_with fail
  refine(Ai E2.o.bel.src).mono ?_;rintro e U3 ⟨r,r0,r1,rfl,hs,hd⟩;have E3:=Ah (E2.o.draw hs hd);clear hs hd E2;generalize U1.heap.size=g0 at E3⊢;obtain⟨t,ht⟩:∃t:Int,1+r=t:=⟨_,rfl⟩;have htb:1<=t/\t<=14:=by omega
  have hwt:IntKind.i64.wrap t=t:=bp _ ⟨by omega,by omega⟩;go_wp2_with fail
  clear hwt ht r0 r1;go_loopw [4,6] (fun V i wr=>∃(j g c:Nat) (code:List MI) (p':Int),(j:Int)<=t/\V=sG g j c/\i=iZ (j:Int)/\p<=p'/\p'<=p+2+2*(j:Int)/\Hid (code.length=j/\Bs u wr s (p') [AK (sG g j c) code]/\∀x∈code,x.wf)) (fun _ i _=>(t-intOf i).toNat)
  case atStart=>exact⟨0,g0,0,[],p+1+1,by omega,rfl,rfl,by omega,by omega,rfl,E3.o,fun x hx=>by cases hx⟩
  case round=>
   clear E3;obtain⟨j,g,c,code,p',hj,rfl,rfl,hpa,hpb,E4⟩:=hrel;have HC:=Ah (aH E4.o.1 E4.o.2.2);by_cases hlt:(j:Int)<t
   case pos=>
    have EA:Hid (Bs u (wr.alloc (.cells #[iZ 0,iZ 25,iZ 26,iZ 27,iZ 29,iZ 0,iZ 26] 2)) s p' [AK (sG g j c) code]):=E4.o.2.1.keep (Aa _ _);go_wp2_with fail
    refine(Ai EA.o.bel.src).mono ?_;rintro e U5 ⟨r1,h1a,h1b,rfl,hs,hd⟩;obtain⟨vl,hvl,hv0,hv1⟩:=Rp r1 h1a h1b
    have hcl:U5.cell? ⟨wr.heap.size,r1.toNat,none⟩=some (iZ vl):=by
     have hlt:=E4.o.2.1.bel.src.lt;rw[hd.cell (by simp) (by show wr.heap.size≠s.S;omega),dY _ _ _ _ _ _ (dT _ _)];exact hvl
    have E5:=Ah ((EA.o.draw hs hd).box 43 4 [iZ vl,iZ 0,iZ 0,iZ 0] rfl);clear hs hd EA hvl E4;go_upto_region 10 with fail
    clear hcl;generalize U5.heap.size=Y at E5⊢;generalize U5.alloc (.cells #[iZ vl,iZ 0,iZ 0,iZ 0] 43)=U6 at E5⊢;clear U5;have y0:U6.cell? ⟨Y,0,none⟩=some (iZ vl):=E5.o.cell (X:=Y) (t:=43) (q:=4) (xs:=[iZ vl,iZ 0,iZ 0,iZ 0]) (by simp) 0 (by omega);go_wp2_with fail
    refine(BZ ⟨vl,0,0,0⟩ _).mono ?_;rintro e U7 ⟨rfl,rfl⟩;clear y0;generalize AG ⟨vl,0,0,0⟩=q;cases q
    case false=>
     go_upto_region 12 with fail
     have y0:U7.cell? ⟨Y,0,none⟩=some (iZ vl):=E5.o.cell (X:=Y) (t:=43) (q:=4) (xs:=[iZ vl,iZ 0,iZ 0,iZ 0]) (by simp) 0 (by omega);have y1:U7.cell? ⟨Y,1,none⟩=some (iZ 0):=E5.o.cell (X:=Y) (t:=43) (q:=4) (xs:=[iZ vl,iZ 0,iZ 0,iZ 0]) (by simp) 1 (by omega);have y2:U7.cell? ⟨Y,2,none⟩=some (iZ 0):=E5.o.cell (X:=Y) (t:=43) (q:=4) (xs:=[iZ vl,iZ 0,iZ 0,iZ 0]) (by simp) 2 (by omega);have y3:U7.cell? ⟨Y,3,none⟩=some (iZ 0):=E5.o.cell (X:=Y) (t:=43) (q:=4) (xs:=[iZ vl,iZ 0,iZ 0,iZ 0]) (by simp) 3 (by omega);have EA:Hid (Bs u (U7.alloc (.cells #[iZ vl,iZ 0,iZ 0,iZ 0] 43)) s (p'+1) (AK (sG g j c) code::[BG Y 43 4 [iZ vl,iZ 0,iZ 0,iZ 0]])):=E5.o.keep (Aa _ _);have OA:Hid ((U7.alloc (.cells #[iZ vl,iZ 0,iZ 0,iZ 0] 43)).ownsRow u.heap.size 43 4 (sG g j c) j (code.flatMap MI.cells)):=by have:=EA.o.sep.own (AK (sG g j c) code) (by simp);simp only[Av.own,AK]at this;rw[HC.o.1]at this;exact this
     go_wp2_with (at_builtin;refine wpList_append_lies _ rfl _ _ 23 rfl u.heap.size 43 iI (.agg #[iZ 0,iZ 0,iZ 0,iZ 0]) 4 32 Tryz.underlying23 hiI hI0 hI1 hI2 rfl (by decide) (sG g j c) j (code.flatMap MI.cells) rfl OA.o ⟨U7.heap.size,0,none⟩ 1 1 [iZ vl,iZ 0,iZ 0,iZ 0] rfl rfl (Bn U7 _ _) (Dx [(⟨vl,0,0,0⟩:MI)]) (by omega) (by simp[maxLen];omega) (by omega) EA.o.size _ rfl ?_;intro g5 cap5 w5 hown5 hgrow5 hat5 hlt5;have E9:Hid (Bs u w5 s (p'+1) [AK (sG g5 (j+1) cap5) (code++[⟨vl,0,0,0⟩])]):=EA.o.more HC.o.1 ⟨vl,0,0,0⟩ hown5 hgrow5 (BH hat5);clear hown5 hgrow5 hat5 hlt5)
     clear EA OA y0 y1 y2 y3;have H9:Hid ((code++[(⟨vl,0,0,0⟩:MI)]).length=j+1/\∀x∈code++[(⟨vl,0,0,0⟩:MI)],x.wf):=⟨by rw[aG,HC.o.1];rfl,fun x hx=>by rcases aS.1 hx with e|e;exact HC.o.2 x e;rw[am.1 e];exact⟨Ag (z:=vl) (by omega) (by omega),Ag (z:=0) (by decide) (by decide),Ag (z:=0) (by decide) (by decide),Ag (z:=0) (by omega) (by omega)⟩⟩
     go_roundw
     case rel=>exact⟨j+1,g5,cap5,code++[⟨vl,0,0,0⟩],p'+1,by omega,rfl,by go_num,by omega,by omega,H9.o.1,E9.o,H9.o.2⟩
     case measure=>simp[intOf];omega
    case true=>
     go_wp2_with fail
     refine(Ai E5.o.bel.src).mono ?_;rintro e U8 ⟨r2,h2a,h2b,rfl,hs,hd⟩;have E8:=Ah (E5.o.draw hs hd);clear hs hd E5;have y3:U8.cell? ⟨Y,3,none⟩=some (iZ 0):=E8.o.cell (X:=Y) (t:=43) (q:=4) (xs:=[iZ vl,iZ 0,iZ 0,iZ 0]) (by simp) 3 (by omega);have z3:U8.frozen? ⟨Y,3,none⟩=false:=E8.o.frozen (X:=Y) (t:=43) (q:=4) (xs:=[iZ vl,iZ 0,iZ 0,iZ 0]) (by simp) 3;have E9':=Ah (E8.o.set 3 (by omega) (iZ r2));go_upto_region 12 with fail
     clear y3 z3 E8;generalize U8.setCell ⟨Y,3,none⟩ (iZ r2)=U9 at E9'⊢;clear U8;have y0:U9.cell? ⟨Y,0,none⟩=some (iZ vl):=E9'.o.cell (X:=Y) (t:=43) (q:=4) (xs:=[iZ vl,iZ 0,iZ 0,iZ r2]) (by simp) 0 (by omega);have y1:U9.cell? ⟨Y,1,none⟩=some (iZ 0):=E9'.o.cell (X:=Y) (t:=43) (q:=4) (xs:=[iZ vl,iZ 0,iZ 0,iZ r2]) (by simp) 1 (by omega);have y2:U9.cell? ⟨Y,2,none⟩=some (iZ 0):=E9'.o.cell (X:=Y) (t:=43) (q:=4) (xs:=[iZ vl,iZ 0,iZ 0,iZ r2]) (by simp) 2 (by omega);have y3:U9.cell? ⟨Y,3,none⟩=some (iZ r2):=E9'.o.cell (X:=Y) (t:=43) (q:=4) (xs:=[iZ vl,iZ 0,iZ 0,iZ r2]) (by simp) 3 (by omega);have EA:Hid (Bs u (U9.alloc (.cells #[iZ vl,iZ 0,iZ 0,iZ r2] 43)) s (p'+1+1) (AK (sG g j c) code::[BG Y 43 4 [iZ vl,iZ 0,iZ 0,iZ r2]])):=E9'.o.keep (Aa _ _);have OA:Hid ((U9.alloc (.cells #[iZ vl,iZ 0,iZ 0,iZ r2] 43)).ownsRow u.heap.size 43 4 (sG g j c) j (code.flatMap MI.cells)):=by have:=EA.o.sep.own (AK (sG g j c) code) (by simp);simp only[Av.own,AK]at this;rw[HC.o.1]at this;exact this
     go_wp2_with (at_builtin;refine wpList_append_lies _ rfl _ _ 23 rfl u.heap.size 43 iI (.agg #[iZ 0,iZ 0,iZ 0,iZ 0]) 4 32 Tryz.underlying23 hiI hI0 hI1 hI2 rfl (by decide) (sG g j c) j (code.flatMap MI.cells) rfl OA.o ⟨U9.heap.size,0,none⟩ 1 1 [iZ vl,iZ 0,iZ 0,iZ r2] rfl rfl (Bn U9 _ _) (Dx [(⟨vl,0,0,r2⟩:MI)]) (by omega) (by simp[maxLen];omega) (by omega) EA.o.size _ rfl ?_;intro g5 cap5 w5 hown5 hgrow5 hat5 hlt5;have E9:Hid (Bs u w5 s (p'+1+1) [AK (sG g5 (j+1) cap5) (code++[⟨vl,0,0,r2⟩])]):=EA.o.more HC.o.1 ⟨vl,0,0,r2⟩ hown5 hgrow5 (BH hat5);clear hown5 hgrow5 hat5 hlt5)
     clear EA OA y0 y1 y2 y3;have H9:Hid ((code++[(⟨vl,0,0,r2⟩:MI)]).length=j+1/\∀x∈code++[(⟨vl,0,0,r2⟩:MI)],x.wf):=⟨by rw[aG,HC.o.1];rfl,fun x hx=>by rcases aS.1 hx with e|e;exact HC.o.2 x e;rw[am.1 e];exact⟨Ag (z:=vl) (by omega) (by omega),Ag (z:=0) (by decide) (by decide),Ag (z:=0) (by decide) (by decide),Ag (z:=r2) (by omega) (by omega)⟩⟩
     go_roundw
     case rel=>exact⟨j+1,g5,cap5,code++[⟨vl,0,0,r2⟩],p'+1+1,by omega,rfl,by go_num,by omega,by omega,H9.o.1,E9.o,H9.o.2⟩
     case measure=>simp[intOf];omega
   case neg=>
    have hj1:1<=j/\j<=14:=by omega
    have E5:=Ah E4.o.2.1;clear E4;go_wp2_with fail
    refine(AF E5.o.bel.src).mono ?_;rintro e UA ⟨q,rfl,hs,hd⟩;have E5a:=Ah (E5.o.draw hs hd);clear hs hd E5;cases q
    case true=>
     go_wp2_with fail
     refine(AF E5a.o.bel.src).mono ?_;rintro e UB ⟨q,rfl,hs,hd⟩;have E5ab:=Ah (E5a.o.draw hs hd);clear hs hd E5a;cases q
     case false=>
      go_wp2_with fail
      refine(AF E5ab.o.bel.src).mono ?_;rintro e UC ⟨q,rfl,hs,hd⟩;have E5abc:=Ah (E5ab.o.draw hs hd);clear hs hd E5ab;cases q
      case true=>
       go_wp2_with fail
       go_ret
       exact⟨none,0,[],rfl,Ic _ _,by simp,fun x hx=>(by cases hx),E5abc.o.bel.drw⟩
      case false=>
       go_wp2_with fail
       go_ret
       refine⟨some ⟨g,0,none⟩,c,code,by rw[HC.o.1];rfl,?_,by rw[HC.o.1];omega,HC.o.2,E5abc.o.bel.drw⟩;have:=Rd.of_own (E5abc.o.sep.own (AK (sG g j c) code) (by simp));simp only[AK]at this;rw[HC.o.1]at this⊢;exact this
     case true=>
      have hw1:IntKind.i64.wrap (t+1)=t+1:=bp _ ⟨by omega,by omega⟩;have hw2:IntKind.i64.wrap (t+2)=t+2:=bp _ ⟨by omega,by omega⟩;go_wp2_with fail
      refine(Ai E5ab.o.bel.src).mono ?_;rintro e UD ⟨r2,h2a,h2b,rfl,hs,hd⟩;have ED:=Ah (E5ab.o.draw hs hd);clear hs hd E5ab
      obtain⟨m,hm,hm0,hm1⟩:∃m:Int,r2*(t+2)=m/\0<=m/\m<=20:=by
       have h:r2=0\/r2=1:=by omega
       rcases h with rfl|rfl
       . exact⟨0,by omega,by omega,by omega⟩
       . exact⟨t+2,by omega,by omega,by omega⟩
      have hw3:IntKind.i64.wrap m=m:=bp _ ⟨by omega,by omega⟩;obtain⟨z,hz⟩:∃z:Int,t+1-m=z:=⟨_,rfl⟩;have hw4:IntKind.i64.wrap z=z:=bp _ ⟨by omega,by omega⟩;obtain⟨HF,⟨a0,a1,a2,a3,y0,y1,y2,y3⟩,hfr⟩:=ED.o.first HC.o.1 (by omega) ⟨25,0,0,z⟩;have z0:=hfr 0;have z1:=hfr 1;have z2:=hfr 2;have z3:=hfr 3;have EE:=Ah HF;have H2:Hid ((code.set 0 (⟨25,0,0,z⟩:MI)).length=j/\∀x∈code.set 0 (⟨25,0,0,z⟩:MI),x.wf):=⟨by rw[dD];exact HC.o.1,fun x hx=>by rcases dK hx with e|e;exact HC.o.2 x e;rw[e];exact⟨Ag (z:=25) (by decide) (by decide),Ag (z:=0) (by decide) (by decide),Ag (z:=0) (by decide) (by decide),Ag (z:=z) (by omega) (by omega)⟩⟩
      clear HF hfr ED HC;have hjI:(0:Int)<(j:Int):=by omega
      go_upto_region 17 with fail
      clear y0 y1 y2 y3 z0 z1 z2 z3 hw1 hw2 hw3 hw4 hm hz;generalize (((UD.setCell ⟨g,0,none⟩ (iZ 25)).setCell ⟨g,1,none⟩ (iZ 0)).setCell ⟨g,2,none⟩ (iZ 0)).setCell ⟨g,3,none⟩ (iZ z)=UE at EE⊢;clear UD;have HC:=H2;clear H2;generalize code.set 0 (⟨25,0,0,z⟩:MI)=code at HC EE⊢;go_wp2_with fail
      refine(AF EE.o.bel.src).mono ?_;rintro e UF ⟨q,rfl,hs,hd⟩;have EEf:=Ah (EE.o.draw hs hd);clear hs hd EE;cases q
      case true=>
       go_wp2_with fail
       go_ret
       exact⟨none,0,[],rfl,Ic _ _,by simp,fun x hx=>(by cases hx),EEf.o.bel.drw⟩
      case false=>
       go_wp2_with fail
       go_ret
       refine⟨some ⟨g,0,none⟩,c,code,by rw[HC.o.1];rfl,?_,by rw[HC.o.1];omega,HC.o.2,EEf.o.bel.drw⟩;have:=Rd.of_own (EEf.o.sep.own (AK (sG g j c) code) (by simp));simp only[AK]at this;rw[HC.o.1]at this⊢;exact this
    case false=>
     have EA:Hid (Bs u (UA.alloc (.cells #[iZ 29,iZ 0,iZ 0,iZ 0] 43)) s (p'+1) (AK (sG g j c) code::[])):=E5a.o.keep (Aa _ _);have OA:Hid ((UA.alloc (.cells #[iZ 29,iZ 0,iZ 0,iZ 0] 43)).ownsRow u.heap.size 43 4 (sG g j c) j (code.flatMap MI.cells)):=by have:=EA.o.sep.own (AK (sG g j c) code) (by simp);simp only[Av.own,AK]at this;rw[HC.o.1]at this;exact this
     go_upto_region 15 with(at_builtin;refine wpList_append_lies _ rfl _ _ 23 rfl u.heap.size 43 iI (.agg #[iZ 0,iZ 0,iZ 0,iZ 0]) 4 32 Tryz.underlying23 hiI hI0 hI1 hI2 rfl (by decide) (sG g j c) j (code.flatMap MI.cells) rfl OA.o ⟨UA.heap.size,0,none⟩ 1 1 [iZ 29,iZ 0,iZ 0,iZ 0] rfl rfl (Bn UA _ _) (Dx [(⟨29,0,0,0⟩:MI)]) (by omega) (by simp[maxLen];omega) (by omega) EA.o.size _ rfl ?_;intro g5 cap5 w5 hown5 hgrow5 hat5 hlt5;have E9:Hid (Bs u w5 s (p'+1) [AK (sG g5 (j+1) cap5) (code++[⟨29,0,0,0⟩])]):=EA.o.more HC.o.1 ⟨29,0,0,0⟩ hown5 hgrow5 (BH hat5);clear hown5 hgrow5 hat5 hlt5)
     clear EA OA;have H9:Hid ((code++[(⟨29,0,0,0⟩:MI)]).length=j+1/\∀x∈code++[(⟨29,0,0,0⟩:MI)],x.wf):=⟨by rw[aG,HC.o.1];rfl,fun x hx=>by rcases aS.1 hx with e|e;exact HC.o.2 x e;rw[am.1 e];exact⟨Ag (z:=29) (by omega) (by omega),Ag (z:=0) (by decide) (by decide),Ag (z:=0) (by decide) (by decide),Ag (z:=0) (by omega) (by omega)⟩⟩
     clear E5a;obtain⟨j2,hj2⟩:∃j2:Nat,j+1=j2:=⟨_,rfl⟩;have hj3:1<=j2/\j2<=15:=by omega
     rw[hj2]at E9 H9⊢;generalize code++[(⟨29,0,0,0⟩:MI)]=code2 at H9 E9⊢;go_wp2_with fail
     refine(AF E9.o.bel.src).mono ?_;rintro e UB ⟨q,rfl,hs,hd⟩;have E9b:=Ah (E9.o.draw hs hd);clear hs hd E9;cases q
     case false=>
      go_wp2_with fail
      refine(AF E9b.o.bel.src).mono ?_;rintro e UC ⟨q,rfl,hs,hd⟩;have E9bc:=Ah (E9b.o.draw hs hd);clear hs hd E9b;cases q
      case true=>
       go_wp2_with fail
       go_ret
       exact⟨none,0,[],rfl,Ic _ _,by simp,fun x hx=>(by cases hx),E9bc.o.bel.drw⟩
      case false=>
       go_wp2_with fail
       go_ret
       refine⟨some ⟨g5,0,none⟩,cap5,code2,by rw[H9.o.1];rfl,?_,by rw[H9.o.1];omega,H9.o.2,E9bc.o.bel.drw⟩;have:=Rd.of_own (E9bc.o.sep.own (AK (sG g5 j2 cap5) code2) (by simp));simp only[AK]at this;rw[H9.o.1]at this⊢;exact this
     case true=>
      have hw1:IntKind.i64.wrap (t+1)=t+1:=bp _ ⟨by omega,by omega⟩;have hw2:IntKind.i64.wrap (t+2)=t+2:=bp _ ⟨by omega,by omega⟩;go_wp2_with fail
      refine(Ai E9b.o.bel.src).mono ?_;rintro e UD ⟨r2,h2a,h2b,rfl,hs,hd⟩;have ED:=Ah (E9b.o.draw hs hd);clear hs hd E9b
      obtain⟨m,hm,hm0,hm1⟩:∃m:Int,r2*(t+2)=m/\0<=m/\m<=20:=by
       have h:r2=0\/r2=1:=by omega
       rcases h with rfl|rfl
       . exact⟨0,by omega,by omega,by omega⟩
       . exact⟨t+2,by omega,by omega,by omega⟩
      have hw3:IntKind.i64.wrap m=m:=bp _ ⟨by omega,by omega⟩;obtain⟨z,hz⟩:∃z:Int,t+1-m=z:=⟨_,rfl⟩;have hw4:IntKind.i64.wrap z=z:=bp _ ⟨by omega,by omega⟩;obtain⟨HF,⟨a0,a1,a2,a3,y0,y1,y2,y3⟩,hfr⟩:=ED.o.first H9.o.1 (by omega) ⟨25,0,0,z⟩;have z0:=hfr 0;have z1:=hfr 1;have z2:=hfr 2;have z3:=hfr 3;have EE:=Ah HF;have H2:Hid ((code2.set 0 (⟨25,0,0,z⟩:MI)).length=j2/\∀x∈code2.set 0 (⟨25,0,0,z⟩:MI),x.wf):=⟨by rw[dD];exact H9.o.1,fun x hx=>by rcases dK hx with e|e;exact H9.o.2 x e;rw[e];exact⟨Ag (z:=25) (by decide) (by decide),Ag (z:=0) (by decide) (by decide),Ag (z:=0) (by decide) (by decide),Ag (z:=z) (by omega) (by omega)⟩⟩
      clear HF hfr ED H9;have hjI:(0:Int)<(j2:Int):=by omega
      go_upto_region 17 with fail
      clear y0 y1 y2 y3 z0 z1 z2 z3 hw1 hw2 hw3 hw4 hm hz;generalize (((UD.setCell ⟨g5,0,none⟩ (iZ 25)).setCell ⟨g5,1,none⟩ (iZ 0)).setCell ⟨g5,2,none⟩ (iZ 0)).setCell ⟨g5,3,none⟩ (iZ z)=UE at EE⊢;clear UD;have H9:=H2;clear H2;generalize code2.set 0 (⟨25,0,0,z⟩:MI)=code2 at H9 EE⊢;go_wp2_with fail
      refine(AF EE.o.bel.src).mono ?_;rintro e UF ⟨q,rfl,hs,hd⟩;have EEf:=Ah (EE.o.draw hs hd);clear hs hd EE;cases q
      case true=>
       go_wp2_with fail
       go_ret
       exact⟨none,0,[],rfl,Ic _ _,by simp,fun x hx=>(by cases hx),EEf.o.bel.drw⟩
      case false=>
       go_wp2_with fail
       go_ret
       refine⟨some ⟨g5,0,none⟩,cap5,code2,by rw[H9.o.1];rfl,?_,by rw[H9.o.1];omega,H9.o.2,EEf.o.bel.drw⟩;have:=Rd.of_own (EEf.o.sep.own (AK (sG g5 j2 cap5) code2) (by simp));simp only[AK]at this;rw[H9.o.1]at this⊢;exact this
theorem AC.on{w w1 w2:World}(h:Below w.heap.size w w1)(hd:AC w.heap.size w1 w2):Below w.heap.size w w2:=
 h.grown hd.grow h.size (fun k hk=>by cases hk;exact Nat.le_refl _)
theorem JU(hB:Gy)(a:Option Addr)(len cap:Nat)(w:World)(hl:len<=140737488355328)(hc:EO w w.heap.size a len):
 Calls Tryz.prog 4 #[.slice a len cap] w fun e w'=>∃(a:Option Addr) (c:Nat) (xs:List MI),e=.returned (.slice a xs.length c)/\Rd w' 4 (.slice a xs.length c) xs.length (xs.flatMap MI.cells)/\xs.length<=200000/\(∀x∈xs,x.wf)/\Below w.heap.size w w':=by
 have HC:Hid (EO w w.heap.size a len):=hc;clear hc;go_enter Tryz.func4,Tryz.ntmps4;go_wp2_with fail
 refine(J7 a len cap w hl HC.o).mono ?_;rintro e w1 ⟨rfl,hs,hb⟩;have E1:Hid (CU w1 w.heap.size a len cap 0/\Below w.heap.size w w1):=⟨hs,hb⟩
 clear hs hb;go_wp2_with fail
 refine(K2 hB w1 ⟨w.heap.size,a,len,cap⟩ 0 E1.o.1 (by omega)).mono ?_;rintro e w2 ⟨a2,c2,xs,rfl,h1,h2,h3,h4⟩;have E2:Hid (Rd w2 4 (.slice a2 xs.length c2) xs.length (xs.flatMap MI.cells)/\xs.length<=200000/\(∀x∈xs,x.wf)/\Below w.heap.size w w2):=⟨h1,h2,h3,AC.on E1.o.2 h4⟩
 clear h1 h2 h3 h4;go_wp2_with fail
 go_ret
 exact⟨a2,c2,xs,rfl,E2.o⟩
end Go.Proofs.YtjpobijiblcgaaaGreat
