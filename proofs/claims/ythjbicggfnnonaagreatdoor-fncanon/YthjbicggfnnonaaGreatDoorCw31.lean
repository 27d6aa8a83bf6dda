import Derived.Test.YthjbicggfnnonaaGreatDoorCw26
import Derived.Test.YthjbicggfnnonaaGreatDoorCw17
namespace Go.Proofs.YthjbicggfnnonaaGreatDoor
open Go.ChangeShapes Go.WideShapes Go.ChangeAt Go.RowKit
set_option linter.unusedVariables false
set_option maxHeartbeats 8000000
set_option maxRecDepth 100000
variable {I:List Nat}{k y G n X c B g:Nat}{w u d f:World}{x:GV}{bad:Bool}{C:List Int}{vk:Value}
theorem UP:(nv I).set k (iZ (y:Int))=nv (I.set k y):=by unfold nv;rw[List.map_set]
theorem Gr.jv(h:Gr w u G n x bad I C)(k:Nat)(d:y<n):Gr w (u.setCell ⟨x.gi,k,none⟩ (iZ (y:Int))) G n x bad (I.set k y) C:=by
 have b:=(lm h.gQ k (iZ (y:Int))).1;rw[UP]at b;have c:∀z∈I.set k y,z<n:=fun z f=>by
  rcases mM f with e|e
  . exact h.ib z e
  subst e;exact d
 exact{h with cC:=h.cC.other (a:=⟨x.gi,k,none⟩) (fun e=>h.iP.1 e.symm) _,gQ:=b,cost:=Cv h.cost h.ne.symm,aC:=h.aC.setCell (AQ h.gQ).1 _,il:=by rw[lw];exact h.il,ib:=c}
theorem Gr.iB(h:Gr w u G n x bad I C)(k:Nat){y:Int}(c:Ll y):Gr w (u.setCell ⟨x.gc,k,none⟩ (iZ y)) G n x bad I (C.set k y):=by have b:=(lm h.cost k (iZ y)).1;rw[MJ]at b;exact{h with cC:=h.cC.other (a:=⟨x.gc,k,none⟩) (fun e=>h.iP.2 e.symm) _,gQ:=Cv h.gQ h.ne,cost:=b,aC:=h.aC.setCell (AQ h.cost).1 _,cl:=by rw[lw];exact h.cl,cb:=JZ h.cb c}
structure Bx(w u0 u:World)(G:Nat)(x:GV)(X hd:Nat)(vb vk:Value):Prop where
 cC:Aw u X #[iZ (hd:Int),vb,vk] 218
 lo:w.heap.size<=X
 up:u0.heap.size<=X
 fr:∀b,b<u0.heap.size->b≠G->b≠x.gi->b≠x.gc->u.heap[b]?=u0.heap[b]?
theorem Bx.aa{e:World}{f:Value}(h:Bx w e u G x X c f vk)(a:Below u.heap.size u d):Bx w e d G x X c f vk:=⟨h.cC.aa a,h.lo,h.up,fun b h1 h2 g i=>by have:=h.cC.lt;have:=h.up;rw[a.block b oM];exact h.fr b h1 h2 g i⟩
theorem Bx.cells{c:World}{a:Nat}{b:Value}(h:Bx w c u G x X a b vk):u.cell? ⟨X,0,none⟩=some (iZ (a:Int))/\u.cell? ⟨X,1,none⟩=some b/\u.cell? ⟨X,2,none⟩=some vk:=⟨by rw[h.cC.cell];rfl,by rw[h.cC.cell];rfl,by rw[h.cC.cell];rfl⟩
theorem Bx.row{l i:Nat}{e:TypeId}{xs:List Value}{z m:Value}(h:Bx w f u G x X l m vk)(A:u.ownsRow B e k (sG g n c) n xs)(y:e≠218)(v:f.heap.size<=g\/g=x.gi\/g=x.gc):Bx w f (u.setCell ⟨g,i,none⟩ z) G x X l m vk:=by
 refine⟨h.cC.other (a:=⟨g,i,none⟩) (fun p=> ?_) _,h.lo,h.up,fun b h1 h2 s t=> ?_⟩
 . obtain⟨_,C,d⟩:=AQ A;have j:=h.cC;unfold Aw at j;have r:X=g:=p;rw[<-r,j]at d;(injection d with d);(injection d with _ d);exact y d.symm
 rw[km u ⟨g,i,none⟩ b _ (by show b≠g;rcases v with q|q|q<;>omega)];exact h.fr b h1 h2 s t
theorem Bx.ne{g:Value}(h:Bx w f u G x X c g vk)(d:Gr w u G n x bad I C):X≠G:=fun e=>by
 have a:=h.cC;have b:=d.cC;unfold Aw at a b;rw[e,b]at a;injection a with a
 injection a with _ a
 exact absurd a dC
theorem Bx.gX{e:Value}(h:Bx w d u G x X c e vk)(i:Gr w u G n x bad I C):Bx w d (u.setCell ⟨G,8,none⟩ (.bool true)) G x X c e vk:=⟨h.cC.other (a:=⟨G,8,none⟩) (h.ne i) _,h.lo,h.up,fun b h1 h2 f g=>by rw[km u ⟨G,8,none⟩ b _ h2];exact h.fr b h1 h2 f g⟩
theorem S7(n:Nat):(madeCells (Value.bool false).cells (n*1)).toList=bv (fun _=>false) n:=by rw[DT,Hz]
theorem Ov{P:Nat->Bool}{b:Bool}(h:u.ownsRow B 4 1 (sG g n c) n (bv P n)):(u.setCell ⟨g,k,none⟩ (.bool b)).ownsRow B 4 1 (sG g n c) n (bv (fun j=>if j=k then b else P j) n):=by have:=(lm h k (.bool b)).1;rw[RK (Q:=fun j=>if j=k then b else P j) (fun j _=>rfl)]at this;exact this
theorem KW(w u:World)(G n:Nat)(x:GV)(bad:Bool)(I:List Nat)(C:List Int)(E:Nat->List Nat)(O:List Nat)(d:Nat)(vb vk:Value)(l:List Int)(f:List Nat)(t:Int)(h0:n<=1048576)(hh:d<n)(ht:Ll t)(h:Gr w u G n x bad I C)(hF:GF w n x E O)(hB:Rd w 1 vb l.length (l.flatMap Ad))(aS:l.length<=1048576)(hK:LW w vk f)(bH:f.length<=1048576)(aU:∀y∈f,y<n):
 Calls Tryz.prog 147 #[.pointer (some ⟨G,0,none⟩),.agg #[iZ (d:Int),vb,vk],iZ t] u fun e u'=>e=.returned (.tuple #[])/\∃aP B C',Gr w u' G n x aP B C'/\∀b,b<u.heap.size->b≠G->b≠x.gi->b≠x.gc->u'.heap[b]?=u.heap[b]?:=by
 obtain⟨j0,hj,bu,bw,bx⟩:=kS D8;obtain⟨s,cb,J⟩:=Rd.bW hB;obtain⟨F,p,ek⟩:=Rd.bW hK;subst J ek;have H:Hid (GF w n x E O/\Rd w 1 (.slice s l.length cb) l.length (l.flatMap Ad)/\l.length<=1048576/\LW w (.slice F f.length p) f/\∀y∈f,y<n):=⟨hF,hB,aS,hK,aU⟩
 have E0:Hid (Gr w (u.alloc (.cells #[iZ (d:Int),.slice s l.length cb,.slice F f.length p] 218)) G n x bad I C/\Bx w u (u.alloc (.cells #[iZ (d:Int),.slice s l.length cb,.slice F f.length p] 218)) G x u.heap.size d (.slice s l.length cb) (.slice F f.length p)):=⟨h.aa (Aa _ _),Aw.new _ _ _,h.aC.size,Nat.le_refl _,fun b hb _ _ _=>(Aa _ _).block b hb⟩
 go_enter Tryz.func147,Tryz.ntmps147;go_upto_region 1 with fail
 generalize u.heap.size=X at E0⊢;refine Ao (fun U=>Hid (Gr w U G n x bad I C/\Bx w u U G x X d (.slice s l.length cb) (.slice F f.length p))) E0 ?_
 rintro U E0;obtain⟨p2,p3,p6,p7,p8,z8⟩:=E0.o.1.cells;obtain⟨x0,x1,x2⟩:=E0.o.2.cells;have bt:=E0.o.1.aC.size;go_wp2_with (at_make;refine lQ _ rfl _ _ 206 rfl w.heap.size 4 j0 (.bool false) 1 Tryz.underlying206 hj bu bw .i64 .i64 _ _ n rfl rfl rfl rfl (by rw[bx];omega) oX bt ?_;intro w3 aN aX;rw[S7]at aN);have aL:Below U.heap.size U w3:=(kV _ _).grown aX lR (fun k hk=>by cases hk);have R:Hid (Gr w w3 G n x bad I C/\Bx w u w3 G x X d (.slice s l.length cb) (.slice F f.length p)/\∃P,w3.ownsRow w.heap.size 4 1 (sG U.heap.size n n) n (bv P n)):=⟨E0.o.1.aa aL,E0.o.2.aa aL,_,aN⟩
 have aJ:Hid (u.heap.size<=U.heap.size):=by have:=E0.o.2.cC.lt;have:=E0.o.2.up;show u.heap.size<=U.heap.size;omega
 generalize U.heap.size=gn at R aJ⊢;go_loopw [8] (fun i wr=>∃(k:Nat),k<=f.length/\i=iZ k/\Hid (Gr w wr G n x bad I C/\Bx w u wr G x X d (.slice s l.length cb) (.slice F f.length p)/\∃P,wr.ownsRow w.heap.size 4 1 (sG gn n n) n (bv P n))) (fun i _=>f.length-(intOf i).toNat)
 case atStart=>exact⟨0,oM,rfl,R⟩
 obtain⟨k,au,rfl,R⟩:=hrel;obtain⟨x0,x1,x2⟩:=R.o.2.1.cells;by_cases ae:k<f.length
 . have aw:(k:Int)<(f.length:Int):=oM;obtain⟨P,hP⟩:=R.o.2.2;obtain⟨K,M,ea,_,aD⟩:=H.o.2.2.2.1.at_ (an ae);have e0:=Af R.o.1.aC aD;have a8:f[k]<n:=H.o.2.2.2.2 _ (ku ae);subst ea;generalize f[k]=z at a8 e0;have aA:(z:Int)<(n:Int):=oM;have c0:=kW hP z oM;rw[KD _ _ _ a8]at c0;have z0:=hP.frozenAt z;have A:Hid (Gr w (wr.setCell ⟨gn,z,none⟩ (.bool true)) G n x bad I C/\Bx w u (wr.setCell ⟨gn,z,none⟩ (.bool true)) G x X d (.slice s l.length cb) (sO K M f.length p)/\∃P,(wr.setCell ⟨gn,z,none⟩ (.bool true)).ownsRow w.heap.size 4 1 (sG gn n n) n (bv P n)):=by
    obtain⟨_,bz,e1⟩:=AQ hP;obtain⟨_,c2,e2⟩:=AQ R.o.1.gQ;obtain⟨_,c3,e3⟩:=AQ R.o.1.cost;have e4:=R.o.1.cC;unfold Aw at e4;refine⟨R.o.1.other (AQ hP).1 (fun q=> ?_) (fun q=> ?_) (fun q=> ?_),R.o.2.1.row hP dC (.inl aJ.o),_,Ov hP⟩
    . rw[q,e4]at e1;cases e1
    . rw[q,e2]at e1;cases e1
    rw[q,e3]at e1;cases e1
   go_wp2_with fail;go_roundw;(case rel=>exact⟨k+1,oM,by go_num,A⟩);exact oI
 go_wp2_with fail;obtain⟨P,hP⟩:=R.o.2.2;refine(KX w wr G n x bad I C E O gn n d P h0 hh R.o.1 H.o.1 hP).mono ?_;rintro e u2 ⟨gB,aQ,L,rfl,D⟩;have A:Hid (Wy w wr u2 G n x aQ I C gn n P gB L/\Bx w u u2 G x X d (.slice s l.length cb) (.slice F f.length p)):=by refine⟨D,?_,R.o.2.1.lo,R.o.2.1.up,fun b h1 h2 h3 h4=>by have:=R.o.2.1.cC.lt;have:=R.o.2.1.up;rw[D.fr b oM h2];exact R.o.2.1.fr b h1 h2 h3 h4⟩;have q:=R.o.2.1.cC;have q2:=D.fr X q.lt (R.o.2.1.ne R.o.1);unfold Aw at q⊢;rw[q2,q]
 go_wp2_with fail;have aI:Hid (Rd u2 1 (.slice s l.length cb) l.length (l.flatMap Ad)/\l.length<=1048576):=⟨Rd.aa H.o.2.1 A.o.1.gr.aC lR,H.o.2.2.1⟩
 go_loopw [10,11,12,13,14,15,16] (fun a o i _ _ _ _ wr=>∃(k:Nat) (a0 T:Int),k<=f.length/\a=iZ a0/\o=iZ T/\i=iZ k/\wr=u2/\Hid (Ll a0/\Ll T)) (fun _ _ i _ _ _ _ _=>f.length-(intOf i).toNat)
 case atStart=>exact⟨0,0,0,oM,rfl,rfl,rfl,rfl,⟨oM,oM⟩,oM,oM⟩
 obtain⟨k,a0,T,au,rfl,rfl,rfl,rfl,HA⟩:=hrel;obtain⟨x0,x1,x2⟩:=A.o.2.cells;obtain⟨p2,p3,p6,p7,p8,z8⟩:=A.o.1.gr.cells;by_cases ae:k<f.length
 . have aw:(k:Int)<(f.length:Int):=oM;obtain⟨K,M,ea,_,aD⟩:=H.o.2.2.2.1.at_ (an ae);have e0:=Af A.o.1.gr.aC aD;have a8:f[k]<n:=H.o.2.2.2.2 _ (ku ae);subst ea;generalize f[k]=z at a8 e0;have aA:(z:Int)<(n:Int):=oM;obtain⟨r,hr,aZ,i0⟩:=A.o.1.gr.im a8;have bK:(r:Int)<(n:Int):=oM;obtain⟨c,_,hc,b0,_⟩:=A.o.1.at_ aZ;obtain⟨ax,cx,aR,bp⟩:=H.o.1.gr z a8;have g0:=Af A.o.1.gr.aC aR;have HE:Hid (LW wr (.slice ax (E z).length cx) (E z)/\∀y∈E z,y<n):=⟨bp.aa A.o.1.gr.aC,H.o.1.eb z a8⟩
   have aT:=H.o.1.sz z;generalize E z=J at HE g0 aT;go_wp2_with fail;refine(D9 _ l (z:Int) wr aI.o.2 aI.o.1).mono ?_;rintro e u3 ⟨⟨bb,rfl,aY⟩,rfl⟩;clear aY;by_cases bI:c>a0
   . cases bb
     . (skip);go_wp2_with fail;go_loopw [11,16] (fun o j wr=>∃(q:Nat) (T:Int),q<=J.length/\o=iZ T/\j=iZ q/\wr=u3/\Hid (Ll T)) (fun _ j _=>J.length-(intOf j).toNat)
       (case atStart=>exact⟨0,T,oM,rfl,rfl,rfl,HA.o.2⟩);obtain⟨q,Q,hq,rfl,rfl,rfl,Y⟩:=hrel;by_cases aj:q<J.length;(case neg=>go_wp2_with fail;go_roundw;(case rel=>exact⟨k+1,a0,Q,oM,by trivial,by trivial,by go_num,by trivial,⟨HA.o.1.1,HA.o.1.2⟩,Y.o⟩);exact oI);have aF:(q:Int)<(J.length:Int):=oM;obtain⟨gx,ox,ex,_,v0⟩:=HE.o.1.at_ (an aj);have am:J[q]<n:=HE.o.2 _ (ku aj);subst ex;generalize J[q]=y at am v0;have aG:(y:Int)<(n:Int):=oM;have n1:=A.o.1.iD am;(cases hPy:P y);(case true=>rw[hPy]at n1;go_wp2_with fail;go_roundw;(case rel=>exact⟨q+1,Q,oM,by trivial,by go_num,by trivial,Y⟩);exact oI);rw[hPy]at n1;by_cases aE:c>Q
       . go_wp2_with fail;go_roundw;(case rel=>exact⟨q+1,c,oM,by trivial,by go_num,by trivial,by have:=Y.o.1;omega,hc.2⟩);exact oI
       go_wp2_with fail;go_roundw;(case rel=>exact⟨q+1,Q,oM,by trivial,by go_num,by trivial,Y⟩);exact oI
     (skip);go_wp2_with fail;go_loopw [11,16] (fun o j wr=>∃(q:Nat) (T:Int),q<=J.length/\o=iZ T/\j=iZ q/\wr=u3/\Hid (Ll T)) (fun _ j _=>J.length-(intOf j).toNat)
     (case atStart=>exact⟨0,T,oM,rfl,rfl,rfl,HA.o.2⟩);obtain⟨q,Q,hq,rfl,rfl,rfl,Y⟩:=hrel;by_cases aj:q<J.length;(case neg=>go_wp2_with fail;go_roundw;(case rel=>exact⟨k+1,c,Q,oM,by trivial,by trivial,by go_num,by trivial,⟨by have:=HA.o.1.1;omega,hc.2⟩,Y.o⟩);exact oI);have aF:(q:Int)<(J.length:Int):=oM;obtain⟨gx,ox,ex,_,v0⟩:=HE.o.1.at_ (an aj);have am:J[q]<n:=HE.o.2 _ (ku aj);subst ex;generalize J[q]=y at am v0;have aG:(y:Int)<(n:Int):=oM;have n1:=A.o.1.iD am;(cases hPy:P y);(case true=>rw[hPy]at n1;go_wp2_with fail;go_roundw;(case rel=>exact⟨q+1,Q,oM,by trivial,by go_num,by trivial,Y⟩);exact oI);rw[hPy]at n1;by_cases aE:c>Q
     . go_wp2_with fail;go_roundw;(case rel=>exact⟨q+1,c,oM,by trivial,by go_num,by trivial,by have:=Y.o.1;omega,hc.2⟩);exact oI
     go_wp2_with fail;go_roundw;(case rel=>exact⟨q+1,Q,oM,by trivial,by go_num,by trivial,Y⟩);exact oI
   cases bb
   . (skip);go_wp2_with fail;go_loopw [11,16] (fun o j wr=>∃(q:Nat) (T:Int),q<=J.length/\o=iZ T/\j=iZ q/\wr=u3/\Hid (Ll T)) (fun _ j _=>J.length-(intOf j).toNat)
     (case atStart=>exact⟨0,T,oM,rfl,rfl,rfl,HA.o.2⟩);obtain⟨q,Q,hq,rfl,rfl,rfl,Y⟩:=hrel;by_cases aj:q<J.length;(case neg=>go_wp2_with fail;go_roundw;(case rel=>exact⟨k+1,a0,Q,oM,by trivial,by trivial,by go_num,by trivial,⟨HA.o.1.1,HA.o.1.2⟩,Y.o⟩);exact oI);have aF:(q:Int)<(J.length:Int):=oM;obtain⟨gx,ox,ex,_,v0⟩:=HE.o.1.at_ (an aj);have am:J[q]<n:=HE.o.2 _ (ku aj);subst ex;generalize J[q]=y at am v0;have aG:(y:Int)<(n:Int):=oM;have n1:=A.o.1.iD am;(cases hPy:P y);(case true=>rw[hPy]at n1;go_wp2_with fail;go_roundw;(case rel=>exact⟨q+1,Q,oM,by trivial,by go_num,by trivial,Y⟩);exact oI);rw[hPy]at n1;by_cases aE:c>Q
     . go_wp2_with fail;go_roundw;(case rel=>exact⟨q+1,c,oM,by trivial,by go_num,by trivial,by have:=Y.o.1;omega,hc.2⟩);exact oI
     go_wp2_with fail;go_roundw;(case rel=>exact⟨q+1,Q,oM,by trivial,by go_num,by trivial,Y⟩);exact oI
   (skip);go_wp2_with fail;go_loopw [11,16] (fun o j wr=>∃(q:Nat) (T:Int),q<=J.length/\o=iZ T/\j=iZ q/\wr=u3/\Hid (Ll T)) (fun _ j _=>J.length-(intOf j).toNat)
   (case atStart=>exact⟨0,T,oM,rfl,rfl,rfl,HA.o.2⟩);obtain⟨q,Q,hq,rfl,rfl,rfl,Y⟩:=hrel;by_cases aj:q<J.length;(case neg=>go_wp2_with fail;go_roundw;(case rel=>exact⟨k+1,a0,Q,oM,by trivial,by trivial,by go_num,by trivial,⟨HA.o.1.1,HA.o.1.2⟩,Y.o⟩);exact oI);have aF:(q:Int)<(J.length:Int):=oM;obtain⟨gx,ox,ex,_,v0⟩:=HE.o.1.at_ (an aj);have am:J[q]<n:=HE.o.2 _ (ku aj);subst ex;generalize J[q]=y at am v0;have aG:(y:Int)<(n:Int):=oM;have n1:=A.o.1.iD am;(cases hPy:P y);(case true=>rw[hPy]at n1;go_wp2_with fail;go_roundw;(case rel=>exact⟨q+1,Q,oM,by trivial,by go_num,by trivial,Y⟩);exact oI);rw[hPy]at n1;by_cases aE:c>Q
   . go_wp2_with fail;go_roundw;(case rel=>exact⟨q+1,c,oM,by trivial,by go_num,by trivial,by have:=Y.o.1;omega,hc.2⟩);exact oI
   go_wp2_with fail;go_roundw;(case rel=>exact⟨q+1,Q,oM,by trivial,by go_num,by trivial,Y⟩);exact oI
 obtain⟨⟨a1,a2⟩,⟨Q,o2⟩⟩:=HA.o;obtain⟨t1,t2⟩:=ht;by_cases aW:a0>0;case neg=>
  obtain rfl:a0=0:=oM;go_wp2_with fail;refine(Gj G 0 T _ wr ⟨oM,oM⟩ ⟨Q,o2⟩ A.o.1.gr.cells.2.2.2.2.1 A.o.1.gr.cells.2.2.2.2.2).mono ?_;rintro e u4 ⟨tt,rfl,aH,hU⟩;have E3:Hid (∃g B,Gr w u4 G n x g B C/\Bx w u u4 G x X d (.slice s l.length cb) (.slice F f.length p)):=by
   rcases hU with rfl|rfl
   . exact⟨_,_,A.o.1.gr,A.o.2⟩
   exact⟨_,_,A.o.1.gr.gX,A.o.2.gX A.o.1.gr⟩
  go_wp2_with fail;go_loopw [18] (fun i wr=>∃k:Nat,k<=f.length/\i=iZ k/\Hid (∃g B,Gr w wr G n x g B C/\Bx w u wr G x X d (.slice s l.length cb) (.slice F f.length p))) (fun i _=>f.length-(intOf i).toNat)
  case atStart=>exact⟨0,oM,rfl,E3.o⟩
  obtain⟨k,au,rfl,E4⟩:=hrel;obtain⟨g,I2,ao,aq⟩:=E4.o;have Z:Hid (Gr w wr G n x g I2 C/\Bx w u wr G x X d (.slice s l.length cb) (.slice F f.length p)):=⟨ao,aq⟩
  obtain⟨x0,x1,x2⟩:=Z.o.2.cells;by_cases ae:k<f.length
  . have aw:(k:Int)<(f.length:Int):=oM;obtain⟨K,M,ea,_,e0⟩:=H.o.2.2.2.1.at_ (an ae);have a8:f[k]<n:=H.o.2.2.2.2 _ (ku ae);subst ea;generalize f[k]=z at a8 e0;have aA:(z:Int)<(n:Int):=oM;have HC:Hid (∀(W:World) (g:Bool) (B:List Nat),Gr w W G n x g B C/\Bx w u W G x X d (.slice s l.length cb) (sO K M f.length p)->W.cell? ⟨G,6,none⟩=some (sG x.gi n x.ci)/\W.cell? ⟨X,2,none⟩=some (sO K M f.length p)/\W.cell? ⟨K,M+k,none⟩=some (iZ (z:Int))/\W.cell? ⟨X,0,none⟩=some (iZ (d:Int))):=fun W g B D=>⟨D.1.cells.2.2.1,D.2.cells.2.2,Af D.1.aC e0,D.2.cells.1⟩
    (go_upto_region 30 with fail);have m:Hid (Gr w wr.drew G n x g I2 C/\Bx w u wr.drew G x X d (.slice s l.length cb) (sO K M f.length p)):=⟨Z.o.1.aa (Ae _),Z.o.2.aa (Ae _)⟩
    refine wp_region_held_drew (S:=fun W=>W.cell? ⟨G,6,none⟩=some (sG x.gi n x.ci)/\W.cell? ⟨X,2,none⟩=some (sO K M f.length p)/\W.cell? ⟨K,M+k,none⟩=some (iZ (z:Int))/\W.cell? ⟨X,0,none⟩=some (iZ (d:Int))) kR (by exact HC.o _ _ _ m.o) (fun a6=> ?_)
    generalize wr.drew=V at m a6⊢;obtain⟨y0,_,_,i0⟩:=m.o.1.im a8;have z0:=m.o.1.gQ.frozenAt z;have N:Hid (Gr w (V.setCell ⟨x.gi,z,none⟩ (iZ (d:Int))) G n x g (I2.set z d) C/\Bx w u (V.setCell ⟨x.gi,z,none⟩ (iZ (d:Int))) G x X d (.slice s l.length cb) (sO K M f.length p)):=⟨m.o.1.jv z hh,m.o.2.row m.o.1.gQ dC (.inr (.inl rfl))⟩
    refine An 0 ?_;refine An 1 ?_;refine An 2 ?_;refine An 3 ?_;refine An 4 ?_;refine An 5 ?_;refine An 6 ?_;refine An 7 ?_;refine An 8 ?_;refine An 9 ?_;refine An 10 ?_;refine An 11 ?_;refine rdH 12 ?_;intro KC ah;go_simp;refine ah.o _ _ (by exact HC.o _ _ _ N.o) (fun a6=> ?_);refine wpAnyH_done kR ?_ _;generalize V.setCell ⟨x.gi,z,none⟩ (iZ (d:Int))=UE at N⊢;go_wp2_with fail;go_roundw;(case rel=>exact⟨k+1,oM,by go_num,g,_,N.o⟩);exact oI
  have HC:Hid (∀(W:World) (g:Bool) (B:List Nat) (C:List Int),Gr w W G n x g B C/\Bx w u W G x X d (.slice s l.length cb) (.slice F f.length p)->W.cell? ⟨G,7,none⟩=some (sG x.gc n x.cc)/\W.cell? ⟨X,0,none⟩=some (iZ (d:Int))):=fun W g B C D=>⟨D.1.cells.2.2.2.1,D.2.cells.1⟩
  have aM:(d:Int)<(n:Int):=oM;go_upto_region 31 with fail
  have m:Hid (Gr w wr.drew G n x g I2 C/\Bx w u wr.drew G x X d (.slice s l.length cb) (.slice F f.length p)):=⟨Z.o.1.aa (Ae _),Z.o.2.aa (Ae _)⟩
  refine wp_region_held_drew (S:=fun W=>W.cell? ⟨G,7,none⟩=some (sG x.gc n x.cc)/\W.cell? ⟨X,0,none⟩=some (iZ (d:Int))) kR (by exact HC.o _ _ _ _ m.o) (fun a6=> ?_)
  generalize wr.drew=V at m a6⊢;obtain⟨y0,_,_,i0⟩:=m.o.1.ie hh;have z0:=m.o.1.cost.frozenAt d;have N:Hid (Gr w (V.setCell ⟨x.gc,d,none⟩ (iZ tt)) G n x g I2 (C.set d tt)/\Bx w u (V.setCell ⟨x.gc,d,none⟩ (iZ tt)) G x X d (.slice s l.length cb) (.slice F f.length p)):=⟨m.o.1.iB d aH,m.o.2.row m.o.1.cost dC (.inr (.inr rfl))⟩
  refine An 0 ?_;refine An 1 ?_;refine An 2 ?_;refine An 3 ?_;refine An 4 ?_;refine An 5 ?_;refine An 6 ?_;refine An 7 ?_;refine rdH 8 ?_;intro KC ah;go_simp;refine ah.o _ _ (by exact HC.o _ _ _ _ N.o) (fun a6=> ?_);refine wpAnyH_done kR ?_ _;refine ke (v:=.tuple #[]) kR rfl ?_;exact⟨rfl,g,_,_,N.o.1,N.o.2.fr⟩
 have bB:0<=4294967295 / a0:=Int.ediv_nonneg oM oM;have bF:4294967295 / a0<=4294967295:=Int.ediv_le_self _ oM;by_cases bL:t>4294967295 / a0
 . have E3:Hid (Gr w (wr.setCell ⟨G,8,none⟩ (.bool true)) G n x true I C/\Bx w u (wr.setCell ⟨G,8,none⟩ (.bool true)) G x X d (.slice s l.length cb) (.slice F f.length p)):=⟨A.o.1.gr.gX,A.o.2.gX A.o.1.gr⟩
   go_wp2_with fail;go_loopw [18] (fun i wr=>∃k:Nat,k<=f.length/\i=iZ k/\Hid (∃g B,Gr w wr G n x g B C/\Bx w u wr G x X d (.slice s l.length cb) (.slice F f.length p))) (fun i _=>f.length-(intOf i).toNat)
   (case atStart=>exact⟨0,oM,rfl,true,_,E3.o⟩);obtain⟨k,au,rfl,E4⟩:=hrel;obtain⟨g,I2,ao,aq⟩:=E4.o;have Z:Hid (Gr w wr G n x g I2 C/\Bx w u wr G x X d (.slice s l.length cb) (.slice F f.length p)):=⟨ao,aq⟩
   obtain⟨x0,x1,x2⟩:=Z.o.2.cells;by_cases ae:k<f.length
   . have aw:(k:Int)<(f.length:Int):=oM;obtain⟨K,M,ea,_,e0⟩:=H.o.2.2.2.1.at_ (an ae);have a8:f[k]<n:=H.o.2.2.2.2 _ (ku ae);subst ea;generalize f[k]=z at a8 e0;have aA:(z:Int)<(n:Int):=oM;have HC:Hid (∀(W:World) (g:Bool) (B:List Nat),Gr w W G n x g B C/\Bx w u W G x X d (.slice s l.length cb) (sO K M f.length p)->W.cell? ⟨G,6,none⟩=some (sG x.gi n x.ci)/\W.cell? ⟨X,2,none⟩=some (sO K M f.length p)/\W.cell? ⟨K,M+k,none⟩=some (iZ (z:Int))/\W.cell? ⟨X,0,none⟩=some (iZ (d:Int))):=fun W g B D=>⟨D.1.cells.2.2.1,D.2.cells.2.2,Af D.1.aC e0,D.2.cells.1⟩
     (go_upto_region 30 with fail);have m:Hid (Gr w wr.drew G n x g I2 C/\Bx w u wr.drew G x X d (.slice s l.length cb) (sO K M f.length p)):=⟨Z.o.1.aa (Ae _),Z.o.2.aa (Ae _)⟩
     refine wp_region_held_drew (S:=fun W=>W.cell? ⟨G,6,none⟩=some (sG x.gi n x.ci)/\W.cell? ⟨X,2,none⟩=some (sO K M f.length p)/\W.cell? ⟨K,M+k,none⟩=some (iZ (z:Int))/\W.cell? ⟨X,0,none⟩=some (iZ (d:Int))) kR (by exact HC.o _ _ _ m.o) (fun a6=> ?_)
     generalize wr.drew=V at m a6⊢;obtain⟨y0,_,_,i0⟩:=m.o.1.im a8;have z0:=m.o.1.gQ.frozenAt z;have N:Hid (Gr w (V.setCell ⟨x.gi,z,none⟩ (iZ (d:Int))) G n x g (I2.set z d) C/\Bx w u (V.setCell ⟨x.gi,z,none⟩ (iZ (d:Int))) G x X d (.slice s l.length cb) (sO K M f.length p)):=⟨m.o.1.jv z hh,m.o.2.row m.o.1.gQ dC (.inr (.inl rfl))⟩
     refine An 0 ?_;refine An 1 ?_;refine An 2 ?_;refine An 3 ?_;refine An 4 ?_;refine An 5 ?_;refine An 6 ?_;refine An 7 ?_;refine An 8 ?_;refine An 9 ?_;refine An 10 ?_;refine An 11 ?_;refine rdH 12 ?_;intro KC ah;go_simp;refine ah.o _ _ (by exact HC.o _ _ _ N.o) (fun a6=> ?_);refine wpAnyH_done kR ?_ _;generalize V.setCell ⟨x.gi,z,none⟩ (iZ (d:Int))=UE at N⊢;go_wp2_with fail;go_roundw;(case rel=>exact⟨k+1,oM,by go_num,g,_,N.o⟩);exact oI
   have HC:Hid (∀(W:World) (g:Bool) (B:List Nat) (C:List Int),Gr w W G n x g B C/\Bx w u W G x X d (.slice s l.length cb) (.slice F f.length p)->W.cell? ⟨G,7,none⟩=some (sG x.gc n x.cc)/\W.cell? ⟨X,0,none⟩=some (iZ (d:Int))):=fun W g B C D=>⟨D.1.cells.2.2.2.1,D.2.cells.1⟩
   have aM:(d:Int)<(n:Int):=oM;(go_upto_region 31 with fail);have m:Hid (Gr w wr.drew G n x g I2 C/\Bx w u wr.drew G x X d (.slice s l.length cb) (.slice F f.length p)):=⟨Z.o.1.aa (Ae _),Z.o.2.aa (Ae _)⟩
   refine wp_region_held_drew (S:=fun W=>W.cell? ⟨G,7,none⟩=some (sG x.gc n x.cc)/\W.cell? ⟨X,0,none⟩=some (iZ (d:Int))) kR (by exact HC.o _ _ _ _ m.o) (fun a6=> ?_)
   generalize wr.drew=V at m a6⊢;obtain⟨y0,_,_,i0⟩:=m.o.1.ie hh;have z0:=m.o.1.cost.frozenAt d;have N:Hid (Gr w (V.setCell ⟨x.gc,d,none⟩ (iZ 0)) G n x g I2 (C.set d 0)/\Bx w u (V.setCell ⟨x.gc,d,none⟩ (iZ 0)) G x X d (.slice s l.length cb) (.slice F f.length p)):=⟨m.o.1.iB d ⟨oM,oM⟩,m.o.2.row m.o.1.cost dC (.inr (.inr rfl))⟩
   refine An 0 ?_;refine An 1 ?_;refine An 2 ?_;refine An 3 ?_;refine An 4 ?_;refine An 5 ?_;refine An 6 ?_;refine An 7 ?_;refine rdH 8 ?_;intro KC ah;go_simp;refine ah.o _ _ (by exact HC.o _ _ _ _ N.o) (fun a6=> ?_);refine wpAnyH_done kR ?_ _;refine ke (v:=.tuple #[]) kR rfl ?_;exact⟨rfl,g,_,_,N.o.1,N.o.2.fr⟩
 have hm:t*a0<=4294967295:=(Int.le_ediv_iff_mul_le aW).1 oM;have bJ:0<=t*a0:=Int.mul_nonneg t1 oM;go_wp2_with fail;refine(Gj G (t*a0) T _ wr ⟨oM,oM⟩ ⟨Q,o2⟩ A.o.1.gr.cells.2.2.2.2.1 A.o.1.gr.cells.2.2.2.2.2).mono ?_;rintro e u4 ⟨tt,rfl,aH,hU⟩;have E3:Hid (∃g B,Gr w u4 G n x g B C/\Bx w u u4 G x X d (.slice s l.length cb) (.slice F f.length p)):=by
  rcases hU with rfl|rfl
  . exact⟨_,_,A.o.1.gr,A.o.2⟩
  exact⟨_,_,A.o.1.gr.gX,A.o.2.gX A.o.1.gr⟩
 go_wp2_with fail;go_loopw [18] (fun i wr=>∃k:Nat,k<=f.length/\i=iZ k/\Hid (∃g B,Gr w wr G n x g B C/\Bx w u wr G x X d (.slice s l.length cb) (.slice F f.length p))) (fun i _=>f.length-(intOf i).toNat)
 case atStart=>exact⟨0,oM,rfl,E3.o⟩
 obtain⟨k,au,rfl,E4⟩:=hrel;obtain⟨g,I2,ao,aq⟩:=E4.o;have Z:Hid (Gr w wr G n x g I2 C/\Bx w u wr G x X d (.slice s l.length cb) (.slice F f.length p)):=⟨ao,aq⟩
 obtain⟨x0,x1,x2⟩:=Z.o.2.cells;by_cases ae:k<f.length
 . have aw:(k:Int)<(f.length:Int):=oM;obtain⟨K,M,ea,_,e0⟩:=H.o.2.2.2.1.at_ (an ae);have a8:f[k]<n:=H.o.2.2.2.2 _ (ku ae);subst ea;generalize f[k]=z at a8 e0;have aA:(z:Int)<(n:Int):=oM;have HC:Hid (∀(W:World) (g:Bool) (B:List Nat),Gr w W G n x g B C/\Bx w u W G x X d (.slice s l.length cb) (sO K M f.length p)->W.cell? ⟨G,6,none⟩=some (sG x.gi n x.ci)/\W.cell? ⟨X,2,none⟩=some (sO K M f.length p)/\W.cell? ⟨K,M+k,none⟩=some (iZ (z:Int))/\W.cell? ⟨X,0,none⟩=some (iZ (d:Int))):=fun W g B D=>⟨D.1.cells.2.2.1,D.2.cells.2.2,Af D.1.aC e0,D.2.cells.1⟩
   (go_upto_region 30 with fail);have m:Hid (Gr w wr.drew G n x g I2 C/\Bx w u wr.drew G x X d (.slice s l.length cb) (sO K M f.length p)):=⟨Z.o.1.aa (Ae _),Z.o.2.aa (Ae _)⟩
   refine wp_region_held_drew (S:=fun W=>W.cell? ⟨G,6,none⟩=some (sG x.gi n x.ci)/\W.cell? ⟨X,2,none⟩=some (sO K M f.length p)/\W.cell? ⟨K,M+k,none⟩=some (iZ (z:Int))/\W.cell? ⟨X,0,none⟩=some (iZ (d:Int))) kR (by exact HC.o _ _ _ m.o) (fun a6=> ?_)
   generalize wr.drew=V at m a6⊢;obtain⟨y0,_,_,i0⟩:=m.o.1.im a8;have z0:=m.o.1.gQ.frozenAt z;have N:Hid (Gr w (V.setCell ⟨x.gi,z,none⟩ (iZ (d:Int))) G n x g (I2.set z d) C/\Bx w u (V.setCell ⟨x.gi,z,none⟩ (iZ (d:Int))) G x X d (.slice s l.length cb) (sO K M f.length p)):=⟨m.o.1.jv z hh,m.o.2.row m.o.1.gQ dC (.inr (.inl rfl))⟩
   refine An 0 ?_;refine An 1 ?_;refine An 2 ?_;refine An 3 ?_;refine An 4 ?_;refine An 5 ?_;refine An 6 ?_;refine An 7 ?_;refine An 8 ?_;refine An 9 ?_;refine An 10 ?_;refine An 11 ?_;refine rdH 12 ?_;intro KC ah;go_simp;refine ah.o _ _ (by exact HC.o _ _ _ N.o) (fun a6=> ?_);refine wpAnyH_done kR ?_ _;generalize V.setCell ⟨x.gi,z,none⟩ (iZ (d:Int))=UE at N⊢;go_wp2_with fail;go_roundw;(case rel=>exact⟨k+1,oM,by go_num,g,_,N.o⟩);exact oI
 have HC:Hid (∀(W:World) (g:Bool) (B:List Nat) (C:List Int),Gr w W G n x g B C/\Bx w u W G x X d (.slice s l.length cb) (.slice F f.length p)->W.cell? ⟨G,7,none⟩=some (sG x.gc n x.cc)/\W.cell? ⟨X,0,none⟩=some (iZ (d:Int))):=fun W g B C D=>⟨D.1.cells.2.2.2.1,D.2.cells.1⟩
 have aM:(d:Int)<(n:Int):=oM;go_upto_region 31 with fail
 have m:Hid (Gr w wr.drew G n x g I2 C/\Bx w u wr.drew G x X d (.slice s l.length cb) (.slice F f.length p)):=⟨Z.o.1.aa (Ae _),Z.o.2.aa (Ae _)⟩
 refine wp_region_held_drew (S:=fun W=>W.cell? ⟨G,7,none⟩=some (sG x.gc n x.cc)/\W.cell? ⟨X,0,none⟩=some (iZ (d:Int))) kR (by exact HC.o _ _ _ _ m.o) (fun a6=> ?_)
 generalize wr.drew=V at m a6⊢;obtain⟨y0,_,_,i0⟩:=m.o.1.ie hh;have z0:=m.o.1.cost.frozenAt d;have N:Hid (Gr w (V.setCell ⟨x.gc,d,none⟩ (iZ tt)) G n x g I2 (C.set d tt)/\Bx w u (V.setCell ⟨x.gc,d,none⟩ (iZ tt)) G x X d (.slice s l.length cb) (.slice F f.length p)):=⟨m.o.1.iB d aH,m.o.2.row m.o.1.cost dC (.inr (.inr rfl))⟩
 refine An 0 ?_;refine An 1 ?_;refine An 2 ?_;refine An 3 ?_;refine An 4 ?_;refine An 5 ?_;refine An 6 ?_;refine An 7 ?_;refine rdH 8 ?_;intro KC ah;go_simp;refine ah.o _ _ (by exact HC.o _ _ _ _ N.o) (fun a6=> ?_);refine wpAnyH_done kR ?_ _;refine ke (v:=.tuple #[]) kR rfl ?_;exact⟨rfl,g,_,_,N.o.1,N.o.2.fr⟩
end Go.Proofs.YthjbicggfnnonaaGreatDoor
