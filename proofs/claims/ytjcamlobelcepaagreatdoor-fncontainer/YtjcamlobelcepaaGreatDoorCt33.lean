import Derived.Test.YtjcamlobelcepaaGreatDoorCt20
import Derived.Test.YtjcamlobelcepaaGreatDoorCt31
import Derived.Test.YtjcamlobelcepaaGreatDoorCt25
namespace Go.Proofs.YtjcamlobelcepaaGreatDoor
open Go.ChangeShapes Go.WideShapes Go.ChangeAt Go.RowKit
set_option linter.unusedVariables false
set_option maxHeartbeats 8000000
set_option maxRecDepth 100000
theorem FI(z:Int):∀u∈[iZ z],u.oneCell'=true:=fun u hu=>by simp at hu;subst hu;rfl
theorem MR(zs:List Int)(z:Int):zs.flatMap Ac++[iZ z]=(zs++[z]).flatMap Ac:=by rw[a8];rfl
theorem SO{ops:Array Oper}{rest:List Oper}{o:Oper}{a:Act}{Q:Exit->Act->World->Prop}{wr:World}{B m:Nat}{aV:Option Addr}{cV:Nat}{zs:List Int}{z:Int}{s x:Operand}(hO:wr.ownsRow B 2 1 (.slice aV m cV) m (zs.flatMap Ac))(hB:B<=wr.heap.size)
 (h:∀g cap w',w'.ownsRow B 2 1 (sG g (m+1) cap) (m+1) ((zs++[z]).flatMap Ac)->(wr.alloc (.cells #[iZ z] 2)).grownBy w' (Value.slice aV m cV).ownBlock->wpList Tryz.prog ops Q rest (a.put o.dst (sG g (m+1) cap)) w')
 (hgd:o.guard=none:=by rfl) (ho:o.op=.call {callee:=.builtin .append,args:=#[s,x],argTypes:=#[47,47]}:=by rfl) (hs:a.eval s=.slice aV m cV:=by rfl) (hx:a.eval x=.slice (some ⟨wr.heap.size,0,none⟩) 1 1:=by rfl) (hm:m<=1000000:=by omega):wpList Tryz.prog ops Q (o::rest) a (wr.alloc (.cells #[iZ z] 2)):=by
 obtain⟨i64,hi,hz0,hz1,hz2⟩:=bJ CF;refine wpList_append_lies _ hgd s x 47 ho B 2 i64 (iZ 0) 1 8 Tryz.underlying47 hi hz0 hz1 hz2 rfl (by decide) _ m _ hs (Ah hO (Aa _ _) lR) ⟨wr.heap.size,0,none⟩ 1 1 [iZ z] hx rfl (De wr _ _) (FI _) (by omega) (by unfold maxLen;omega) (by omega) (aR hB (Aa _ _).size) _ rfl ?_;intro g cap w' h1 h2 _ _;rw[MR]at h1;exact h g cap w' h1 h2
theorem Nh{zs:List Int}{m:Nat}{z:Int}(h:zs.length=m):(zs++[z]).length=m+1:=by rw[aH,h];rfl
theorem Ow{w:World}{a:Option Addr}{n c j:Nat}{xs:List Int}{x:Int}(h:Rd w 1 (.slice a n c) n (xs.flatMap Ac))(hj:j<n)(hx:xs[j]?=some x):∃g o,a=some ⟨g,o,none⟩/\w.cell? ⟨g,o+j,none⟩=some (iZ x):=by
 rcases h.2 with⟨e0,_⟩|⟨g1,o1,c1,e1,hc⟩
 . omega
 . simp only[aI,ao]at e1
   exact⟨g1,o1,e1.1,hc j _ (Hc hx)⟩
theorem Q6{w u:World}{B S n rn:Nat}{aV:Option Addr}{cV:Nat}{zs:List Int}(h:w.ownsRow B 2 1 (.slice aV n cV) n (zs.flatMap Ac))(hd:AR S w u)(hS:S<B)(hn:zs.length=n)(hr:rn<n):∃gv z,z∈zs/\aV=some ⟨gv,0,none⟩/\u.cell? ⟨gv,rn,none⟩=some (iZ z):=by
 have hO:=BM h hd.grow (fun b hb e=>by have:=(h.lt b hb).1;simp only[aM]at e;omega);rcases Ci hO with⟨e,h0⟩|⟨gv,c,e⟩
 . omega
 simp only[aI]at e;obtain⟨rfl,_⟩:=e;have c0:=bF hO rn (by omega);rw[Hc (aA (show rn<zs.length by omega))]at c0;exact⟨gv,_,be _,rfl,c0⟩
theorem OX(u:World):(u.alloc (.cells #[] 2)).ownsRow u.heap.size 2 1 (sG u.heap.size 0 0) 0 []/\Below u.heap.size u (u.alloc (.cells #[] 2)):=⟨⟨rfl,.inr ⟨u.heap.size,0,#[],rfl,Nat.le_refl _,dB _ _,Nat.le_refl _,cU _,rfl,by simp⟩⟩,Aa _ _⟩
def Dr(s:CR)(p m:Int)(u u':World):Prop:=∃p',(p<=p'/\p'<=p+m)/\D8 u' s.S s.a s.len s.cap p'/\AR s.S u u'
def RA(s:CR)(p m:Int)(q:Nat->Prop)(u:World)(e:Ending)(u':World):Prop:=∃r:Int,e=.returned (iZ r)/\(r=-1\/∃b:Nat,r=b/\q b)/\Dr s p m u u'
def Cq(q:Nat->Prop)(zs:List Int):Prop:=∀z∈zs,∃b:Nat,z=b/\q b
theorem Cq.add{q:Nat->Prop}{zs:List Int}{j:Nat}(h:Cq q zs)(hj:q j):Cq q (zs++[(j:Int)]):=fun z hz=>by
 rcases ah.1 hz with e|e
 . exact h z e
 . exact⟨j,by simpa using e,hj⟩
def Pk(u wr:World)(aV:Option Addr)(m cV:Nat)(zs:List Int)(q:Nat->Prop):Prop:=zs.length=m/\wr.ownsRow u.heap.size 2 1 (.slice aV m cV) m (zs.flatMap Ac)/\Below u.heap.size u wr/\Cq q zs
theorem Pk.zero(u:World)(q:Nat->Prop):Pk u (u.alloc (.cells #[] 2)) (some ⟨u.heap.size,0,none⟩) 0 0 [] q:=⟨rfl,(OX u).1,(OX u).2,fun z hz=>by cases hz⟩
theorem OY{u wr w5:World}{aV:Option Addr}{m cV g cap j:Nat}{zs:List Int}{q:Nat->Prop}(E:Hid (Pk u wr aV m cV zs q))(h5:w5.ownsRow u.heap.size 2 1 (sG g (m+1) cap) (m+1) ((zs++[(j:Int)]).flatMap Ac))(h6:(wr.alloc (.cells #[iZ (j:Int)] 2)).grownBy w5 (Value.slice aV m cV).ownBlock)(hj:q j):Hid (Pk u w5 (some ⟨g,0,none⟩) (m+1) cap (zs++[(j:Int)]) q):=
 have⟨h1,h2,h3,h4⟩:=E.o
 ⟨Nh h1,h5,(Ab h3 lR (Aa _ _)).grown h6 (aR h3.size (Aa _ _).size) (fun q hq=>(h2.lt q hq).1),h4.add hj⟩
theorem IV(u:World)(s:CR)(p t:Int)(lv:Value)(xs:List Int)(hs:D8 u s.S s.a s.len s.cap p)(hp:p+1<=1000000000000)(hr:Rd u 1 lv xs.length (xs.flatMap Ac))(hl:xs.length<=1000):
 Calls Tryz.prog 86 #[.pointer (some ⟨s.S,0,none⟩),lv,iZ t,iZ 256] u (RA s p 1 (fun b=>xs[b]?=some t) u):=by
 obtain⟨a,c,rfl⟩:=Rd.is_slice hr;have H:=Af (aG hs hr);have HU:=Af H.o.1.lt;generalize hn:xs.length=n at H hl⊢;have HN:=Af hn;clear hs hr hn;go_enter Tryz.func86,Tryz.ntmps86;go_wp2_with fail
 go_loopw [9,10] (fun V i wr=>∃(j m:Nat) (aV:Option Addr) (zs:List Int) (cV:Nat),j<=n/\j<=256/\V=.slice aV m cV/\i=iZ j/\m<=j/\Hid (Pk u wr aV m cV zs fun b=>xs[b]?=some t)) (fun _ i _=>n-(intOf i).toNat)
 case atStart=>exact⟨0,0,_,[],_,by omega,by omega,rfl,rfl,by omega,Pk.zero u _⟩
 case round=>
  obtain⟨j,m,aV,zs,cV,hj,hj2,rfl,rfl,hzl,E1⟩:=hrel;by_cases hlt:j<n/\j<256
  case pos=>
   obtain⟨h1,h2⟩:=hlt;have h1I:(j:Int)<(n:Int):=by omega
   have h2I:(j:Int)<256:=by omega
   obtain⟨x,hx⟩:∃x,xs[j]?=some x:=⟨_,aA (by rw[HN.o];exact h1)⟩;obtain⟨ga,oa,rfl,kz⟩:=Ow (Rd.keep H.o.2 E1.o.2.2.1 lR) h1 hx;have HX:=Af hx;clear hx;cases hxt:(x==t)
   case false=>
    go_wp2_with fail
    go_roundw
    case rel=>exact⟨j+1,m,aV,zs,cV,by omega,by omega,rfl,by go_num,by omega,E1⟩
    case measure=>simp[intOf];omega
   have HT:Hid (x=t):=eq_of_beq hxt;go_wp2_with (first|(at_builtin;refine SO E1.o.2.1 E1.o.2.2.1.size ?_;intro g5 cap5 w5 h5 h6;have E5:=OY E1 h5 h6 (HX.o.trans (congrArg some HT.o));clear h5 h6)|go_in);go_roundw
   case rel=>exact⟨j+1,m+1,some ⟨g5,0,none⟩,zs++[(j:Int)],cap5,by omega,by omega,rfl,by go_num,by omega,E5⟩
   case measure=>simp[intOf];omega
  by_cases h1:j<n
  case' pos=>
   have h1I:(j:Int)<(n:Int):=by omega
   have h2I:¬(j:Int)<256:=by omega
  case' neg=>have h1I:¬(j:Int)<(n:Int):=by omega
  all_goals
   by_cases hm0:m=0
   case pos=>
    subst hm0;go_wp2_with fail
    go_ret
    exact⟨-1,rfl,.inl rfl,p,by omega,H.o.1.below E1.o.2.2.1,.of_below E1.o.2.2.1⟩
   have hm1:((m:Int)==0)=false:=by rw[du];omega
   go_wp2_with fail
   refine(A5 (H.o.1.below E1.o.2.2.1) hp (n:=(m:Int)) (by omega) (by omega)).mono ?_;rintro e u2 ⟨r,h0,h1',rfl,hs2,hd2⟩;obtain⟨rn,rfl⟩:=aS h0;obtain⟨gv,z,hz,rfl,c0⟩:=Q6 E1.o.2.1 hd2 HU.o E1.o.1 (show rn<m by omega);have E2:=Af (aG (E1.o.2.2.2 z hz) (aG hs2 ((AR.of_below E1.o.2.2.1).trans hd2)));clear hs2 hd2 hz E1;go_wp2_with fail
   go_ret
   exact⟨z,rfl,.inr E2.o.1,p+1,by omega,E2.o.2⟩
def RD(s:CR)(u:World)(lv:Value)(xs:List Int):Prop:=∀u',AR s.S u u'->Rd u' 1 lv xs.length (xs.flatMap Ac)
theorem RD.rd{s:CR}{u:World}{lv:Value}{xs:List Int}(h:RD s u lv xs):Rd u 1 lv xs.length (xs.flatMap Ac):=h u (AR.refl _ _)
theorem RD.draw{s:CR}{u u':World}{lv:Value}{xs:List Int}(h:RD s u lv xs)(hd:AR s.S u u'):RD s u' lv xs:=fun u2 h2=>h u2 (hd.trans h2)
theorem RD.own{s:CR}{u:World}{B:Nat}{lv:Value}{xs:List Int}(h:u.ownsRow B 2 1 lv xs.length (xs.flatMap Ac))(hB:s.S<B):RD s u lv xs:=fun u' hd=>Rd.of_own (BM h hd.grow (fun b hb e=>by have:=(h.lt b hb).1;simp only[aM]at e;omega))
def Ry(s:CR)(p m:Int)(q:Nat->Nat->Prop)(u:World)(e:Ending)(u':World):Prop:=∃r m':Int,e=.returned (.tuple #[iZ r,iZ m'])/\(r=-1\/∃b m:Nat,r=b/\m'=m/\q b m)/\Dr s p m u u'
theorem Mk.next{m:Nat}(h:Mk m)(hm:m*2+2<=100):Mk (m*2+1):=by unfold Mk at*;omega
theorem Ku(u:World)(s:CR)(p t:Int)(lv:Value)(xs:List Int)(hs:D8 u s.S s.a s.len s.cap p)(hp:p+102<=1000000000000)(hr:RD s u lv xs)(hl:xs.length<=100):
 Calls Tryz.prog 56 #[.pointer (some ⟨s.S,0,none⟩),lv,iZ t] u (Ry s p 102 (fun b m=>Mk m/\∀j,j<=m->xs[b+j]?=some t) u):=by
 have hp0:=hs.low;obtain⟨a,c,rfl⟩:=Rd.is_slice hr.rd;have H:=Af (aG hs hr);generalize hn:xs.length=n at H hl⊢;have HN:=Af hn;clear hs hr hn;go_enter Tryz.func56,Tryz.ntmps56;go_wp2_with fail
 refine(IV u s p t (.slice a n c) xs H.o.1 (by omega) (by rw[HN.o];have:=H.o.2.rd;rw[HN.o]at this;exact this) (by rw[HN.o];omega)).mono ?_;rintro e u1 ⟨r,rfl,rfl|⟨q,rfl,hq⟩,p1,hp1,hs1,hd1⟩
 case inl=>
  go_wp2_with fail
  refine aW (v:=.tuple #[iZ (-1),iZ 0]) (by simp[results,Tryz.results56,go_sem]) rfl ?_;exact⟨-1,0,rfl,.inl rfl,p1,by omega,hs1,hd1⟩
 have hqn:q<n:=by have:=(aE.1 hq).1;rw[HN.o]at this;exact this
 have E1:=Af (aG hs1 hd1);have HQ:=Af hq;have HR:Hid (Rd u1 1 (.slice a n c) n (xs.flatMap Ac)):=by have:=(H.o.2.draw hd1).rd;rw[HN.o]at this;exact this
 clear hs1 hd1 hq;have hrn:¬(q:Int)<0:=by omega
 go_wp2_with fail
 go_loopw [9] (fun i wr=>∃m:Nat,q+m<=n/\i=iZ m/\wr=u1/\Hid (∀j,j<m->xs[q+j]?=some t)) (fun i _=>n-(intOf i).toNat)
 case atStart=>exact⟨0,by omega,rfl,rfl,fun j hj=>absurd hj (Nat.not_lt_zero _)⟩
 case round=>
  obtain⟨m,hm,rfl,rfl,HM⟩:=hrel;by_cases hlt:q+m<n
  case' pos=>
   have hltI:((q+m:Nat):Int)<(n:Int):=by omega
   have hltJ:(q:Int)+(m:Int)<(n:Int):=by omega
   obtain⟨x,hx⟩:∃x,xs[q+m]?=some x:=⟨_,aA (by rw[HN.o];exact hlt)⟩;obtain⟨ga,oa,rfl,kz⟩:=Ow HR.o hlt hx;have hnat:((q:Int)+(m:Int)).toNat=q+m:=by omega
   have HX:=Af hx;clear hx;cases hxt:(x==t)
   case' true=>
    go_wp2_with fail
    go_roundw
    (case rel=>exact⟨m+1,by omega,by go_num,trivial,fun j hj=>by
     by_cases e:j=m
     . subst e;rw[HX.o,eq_of_beq hxt]
     . exact HM.o j (by omega)⟩)
    exact(by simp[intOf];omega)
  case' neg=>have hltJ:¬(q:Int)+(m:Int)<(n:Int):=by omega
  all_goals
   have hm1:Hid (0<m\/m=0):=by show _\/_;omega
   have HS:Hid (∀j,j<=0->xs[q+j]?=some t):=fun j hj=>by rw[Nat.le_zero.1 hj];exact HQ.o
   go_wp2_with fail
   go_loopw [10] (fun i wr=>∃(mk:Nat) (pp:Int),(mk=0\/mk<m)/\i=iZ mk/\(p1<=pp/\pp<=p1+mk)/\Hid (Mk mk/\D8 wr s.S s.a s.len s.cap pp/\AR s.S u wr)) (fun i _=>m-(intOf i).toNat)
   case atStart=>exact⟨0,p1,.inl rfl,rfl,by omega,.inl rfl,E1.o⟩
   case round=>
    obtain⟨mk,pp,hmk,rfl,hq1,E2⟩:=hrel
    have HF:Hid (∀j,j<=mk->xs[q+j]?=some t):=fun j hj=>by
     rcases hmk with e|e
     . exact HS.o j (by omega)
     . exact HM.o j (by omega)
    by_cases hle:(mk:Int)*2+2<=(m:Int)
    case neg=>
     go_wp2_with fail
     refine aW (v:=.tuple #[iZ (q:Int),iZ (mk:Int)]) (by simp[results,Tryz.results56,go_sem]) rfl ?_;exact⟨_,_,rfl,.inr ⟨q,mk,rfl,rfl,E2.o.1,HF.o⟩,pp,by omega,E2.o.2⟩
    go_wp2_with fail
    refine(Ib E2.o.2.1).mono ?_;rintro e u3 ⟨b,rfl,hs3,hd3⟩;have E3:=Af (aG hs3 (E2.o.2.2.trans hd3));clear hs3 hd3;cases b
    . go_wp2_with fail
      refine aW (v:=.tuple #[iZ (q:Int),iZ (mk:Int)]) (by simp[results,Tryz.results56,go_sem]) rfl ?_;exact⟨_,_,rfl,.inr ⟨q,mk,rfl,rfl,E2.o.1,HF.o⟩,pp+1,by omega,E3.o⟩
    . go_wp2_with fail
      go_roundw
      case rel=>exact⟨mk*2+1,pp+1,.inr (by omega),by go_num,by omega,E2.o.1.next (by omega),E3.o⟩
      case measure=>simp[intOf];omega
def Dz(L:List Int):Nat:=(L.map fun x=>(4294967296-x).toNat).sum
theorem PU{L:List Int}{k:Nat}{x c:Int}(h:L[k]?=some x)(hx:x<c)(hc:c<=4294967295):Dz (L.set k c)<Dz L:=by
 induction L generalizing k with
 |nil=>cases h
 | cons y r ih=>
   cases k with
   | zero=>
     simp only[aJ,aM]at h;subst h;simp only[Dz,au,db,List.sum_cons];omega
   | succ k=>
     simp only[aL]at h;have:=ih h;simp only[Dz,aw,db,List.sum_cons]at this⊢;omega
def Uk(x:Int):Prop:=-1<=x/\x<=4294967295
theorem LE{C:List Int}{k:Nat}{c:Int}:(C.flatMap Ac).set k (iZ c)=(C.set k c).flatMap Ac:=by
 induction C generalizing k with
 |nil=>rfl
 | cons y r ih=>
   cases k with
   |zero=>rfl
   | succ k=>
     rw[aw,am,am];show Ac y++_=_;rw[<-ih];rfl
theorem I5{P:Int->Prop}{L:List Int}{k:Nat}{c:Int}(h:∀x∈L,P x)(hc:P c):∀x∈L.set k c,P x:=fun x hx=>by
 rcases dR hx with e|e
 . exact h x e
 . subst e
   exact hc
structure Wy(w u0 u:World)(G n:Nat)(x:GV)(bad:Bool)(I:List Nat)(C:List Int)(gn cn:Nat)(P:Nat->Bool)(gB:Nat)(L:List Int):Prop where
 gr:Gr w u G n x bad I C
 in_:u.ownsRow w.heap.size 4 1 (sG gn n cn) n (bv P n)
 own:u.ownsRow u0.heap.size 2 1 (sG gB n n) n (L.flatMap Ac)
 ll:L.length=n
 lb:∀y∈L,Uk y
 lo:w.heap.size<=u0.heap.size/\G<u0.heap.size/\x.gi<u0.heap.size/\x.gc<u0.heap.size/\gn<u0.heap.size
 fr:∀b,b<u0.heap.size->b≠G->u.heap[b]?=u0.heap[b]?
section
variable {w u0 u:World} {G n:Nat} {x:GV} {bad:Bool} {I:List Nat} {C:List Int} {gn cn:Nat} {P:Nat->Bool} {gB:Nat} {L:List Int}
theorem Wy.bad_(h:Wy w u0 u G n x bad I C gn cn P gB L):Wy w u0 (u.setCell ⟨G,8,none⟩ (.bool true)) G n x true I C gn cn P gB L:=by
 have hgB:=(AF h.own).1;have hl:=h.lo;refine{h with gr:=h.gr.bad_,in_:=BU h.in_ fun e=> ?_,own:=BU h.own (by omega),fr:=fun b h1 h2=>by rw[bI u ⟨G,8,none⟩ b _ h2];exact h.fr b h1 h2};obtain⟨_,c1,e1⟩:=AF h.in_;have e3:=h.gr.blk;unfold Ap at e3;rw[e,e3]at e1;cases e1
theorem Wy.set(h:Wy w u0 u G n x bad I C gn cn P gB L)(k:Nat){c:Int}(hc:Uk c):Wy w u0 (u.setCell ⟨gB,k,none⟩ (iZ c)) G n x bad I C gn cn P gB (L.set k c):=by
 have hgB:=(AF h.own).1;have hl:=h.lo;have hs:=(cP h.own k (iZ c)).1;rw[LE]at hs;exact{h with gr:=h.gr.other (by omega) (by omega) (by omega) (by omega),in_:=BU h.in_ (by omega),own:=hs,ll:=by rw[cg];exact h.ll,lb:=I5 h.lb hc,fr:=fun b h1 h2=>by rw[bI u ⟨gB,k,none⟩ b _ (by show b≠gB;omega)];exact h.fr b h1 h2}
theorem Wy.keep{u':World}(h:Wy w u0 u G n x bad I C gn cn P gB L)(hb:Below u.heap.size u u'):Wy w u0 u' G n x bad I C gn cn P gB L:=by
 have hfr:∀b,b<u0.heap.size->b≠G->u'.heap[b]?=u0.heap[b]?:=fun b h1 h2=>by
  obtain⟨h3,_,h4⟩:=AF h.own;have:=(an.1 h4).1;rw[hb.block b (by omega)];exact h.fr b h1 h2
 exact{h with gr:=h.gr.keep hb,in_:=Ah h.in_ hb lR,own:=Ah h.own hb lR,fr:=hfr}
theorem Wy.at_(h:Wy w u0 u G n x bad I C gn cn P gB L){k:Nat}(hk:k<n):∃y,L[k]?=some y/\Uk y/\u.cell? ⟨gB,k,none⟩=some (iZ y)/\u.frozen? ⟨gB,k,none⟩=false:=by
 have hb':k<L.length:=by rw[h.ll];exact hk
 have:=bF h.own k (by omega);rw[Hc (aA hb')]at this;exact⟨_,aA hb',h.lb _ (be hb'),this,h.own.frozenAt k⟩
theorem Wy.inAt(h:Wy w u0 u G n x bad I C gn cn P gB L){k:Nat}(hk:k<n):u.cell? ⟨gn,k,none⟩=some (.bool (P k)):=by
 have:=bF h.in_ k (by omega);rw[JA _ _ _ hk]at this;exact this
end
def O5(u:World)(g n:Nat):Nat:=((List.range n).map fun i=>match u.cell? ⟨g,i,none⟩with|some (.int _ y)=>(4294967296-y).toNat|_=>0).sum
theorem Wy.rest{w u0 u:World}{G n:Nat}{x:GV}{bad:Bool}{I:List Nat}{C:List Int}{gn cn:Nat}{P:Nat->Bool}{gB:Nat}{L:List Int}(h:Wy w u0 u G n x bad I C gn cn P gB L):O5 u gB n=Dz L:=by
 unfold O5 Dz;congr 1
 apply cL;intro k;by_cases hk:k<n
 . obtain⟨y,h1,_,h3,_⟩:=h.at_ hk
   rw[bQ,bQ,h1,eO hk];simp only[eM,h3]
 . rw[ae (by simp;omega),ae (by rw[bB,h.ll];omega)]
def I7(a:Value):Nat:=match a with|.bool true=>1|_=>0
theorem To(n:Nat):(madeCells (Value.int .i64 0).cells (n*1)).toList=(List.replicate n (0:Int)).flatMap Ac:=by
 rw[JX n (fun _=>[]) []];simp[CE,List.flatten_replicate_singleton];induction n with
 |zero=>rfl
 |succ n ih=>rw[de,de,am,<-ih];rfl
def TP(w u:World)(G n:Nat)(x:GV)(I:List Nat)(C:List Int)(gn cn:Nat)(P:Nat->Bool)(e:Ending)(u':World):Prop:=∃gB bad L,e=.returned (sG gB n n)/\Wy w u u' G n x bad I C gn cn P gB L
theorem JR (w u:World)(G n:Nat)(x:GV)(bad:Bool)(I:List Nat)(C:List Int)(E:Nat->List Nat)(O:List Nat)(gn cn f:Nat)(P:Nat->Bool)(h0:n<=1048576)(hf:f<n)(h:Gr w u G n x bad I C)(hF:GF w n x E O)(hi:u.ownsRow w.heap.size 4 1 (sG gn n cn) n (bv P n)):
 Calls Tryz.prog 139 #[.pointer (some ⟨G,0,none⟩),iZ (f:Int),sG gn n cn] u (TP w u G n x I C gn cn P):=by
 obtain⟨k0,hk,hx0,hx1,hx2⟩:=bJ CF;have hfI:(f:Int)<(n:Int):=by omega
 have H:Hid (Gr w u G n x bad I C/\GF w n x E O/\u.ownsRow w.heap.size 4 1 (sG gn n cn) n (bv P n)):=⟨h,hF,hi⟩
 obtain⟨p2,p3,p6,p7,p8,z8⟩:=h.cells;go_enter Tryz.func139,Tryz.ntmps139;go_wp2_with (at_make;refine bu _ rfl _ _ 47 rfl u.heap.size 2 k0 (iZ 0) 1 Tryz.underlying47 hk hx0 hx1 .i64 .i64 _ _ n rfl rfl rfl rfl (by rw[hx2];omega) (by unfold maxLen;omega) lR ?_;intro w3 hown hgrow;rw[To]at hown);have hb3:Below u.heap.size u w3:=(aq _ _).grown hgrow lR (fun k hk=>by cases hk);have HW:Hid (Wy w u w3 G n x bad I C gn cn P u.heap.size (List.replicate n 0)):=⟨H.o.1.keep hb3,Ah H.o.2.2 hb3 lR,hown,eT,fun y hy=>by rw[(List.mem_replicate.1 hy).2];exact⟨by omega,by omega⟩,⟨H.o.1.bel.size,H.o.1.blk.lt,by obtain⟨_,c,e⟩:=AF H.o.1.is_;exact(an.1 e).1,by obtain⟨_,c,e⟩:=AF H.o.1.cost;exact(an.1 e).1,by obtain⟨_,c,e⟩:=AF H.o.2.2;exact(an.1 e).1⟩,fun b h1 _=>hb3.block b h1⟩;go_loopw [9] (fun i wr=>∃(k:Nat) (L:List Int),k<=n/\i=iZ k/\Hid (Wy w u wr G n x bad I C gn cn P u.heap.size L)) (fun i _=>n-(intOf i).toNat)
 case atStart=>exact⟨0,_,by omega,rfl,HW⟩
 case round =>
  obtain⟨k,L,hk',rfl,HW⟩:=hrel;by_cases hlt:k<n
  . have hltI:(k:Int)<(n:Int):=by omega
    obtain⟨y,_,_,c0,z0⟩:=HW.o.at_ hlt;have HW2:Hid (Wy w u (wr.setCell ⟨u.heap.size,k,none⟩ (iZ (-1))) G n x bad I C gn cn P u.heap.size (L.set k (-1))):=HW.o.set k ⟨by omega,by omega⟩;go_wp2_with fail
    go_roundw
    case rel=>exact⟨k+1,_,by omega,by go_num,HW2⟩
    case measure=>simp[intOf];omega
  . have hkn:k=n:=by omega
    subst hkn;obtain⟨p2,p3,p6,p7,p8,z8⟩:=HW.o.gr.cells;obtain⟨yf,_,hyf,cf⟩:=HW.o.gr.costAt hf;obtain⟨y0,_,_,c0,z0⟩:=HW.o.at_ hf;have HW2:Hid (Wy w u (wr.setCell ⟨u.heap.size,f,none⟩ (iZ yf)) G k x bad I C gn cn P u.heap.size (L.set f yf)):=HW.o.set f ⟨by have:=hyf.1;omega,hyf.2⟩;go_wp2_with fail;have hk0:0<k:=by omega
    go_loopw [10,11,12,13,14,15,16,17] (fun a _ _ _ _ _ _ _ wr=>∃(ag bd:Bool) (L:List Int),a=.bool ag/\Hid (Wy w u wr G k x bd I C gn cn P u.heap.size L)) (fun a _ _ _ _ _ _ _ wr=>O5 wr u.heap.size k+I7 a)
    case atStart=>exact⟨true,bad,_,rfl,HW2⟩
    case round=>
     obtain⟨ag,bd,L0,rfl,HW⟩:=hrel;obtain⟨p2,p3,p6,p7,p8,z8⟩:=HW.o.gr.cells;by_cases hag:ag=true/\bd=false
     case neg=>
      cases ag
      . clear hag
        go_wp2_with fail
        go_ret
        exact⟨_,_,_,rfl,HW.o⟩
      . have hbd:bd=true:=by cases bd<;>simp at hag⊢
        subst hbd;go_wp2_with fail
        go_ret
        exact⟨_,_,_,rfl,HW.o⟩
     obtain⟨rfl,rfl⟩:=hag;have HR:Hid (O5 wr u.heap.size k=Dz L0):=HW.o.rest;go_wp2_with fail
     go_loopw [10,11,12,13,14,15,16,17] (fun a i _ _ _ _ _ _ wr=>∃(m:Nat) (ag bd:Bool) (L:List Int),m<=k/\a=.bool ag/\i=iZ m/\Hid (Wy w u wr G k x bd I C gn cn P u.heap.size L/\Dz L+I7 (.bool ag)<=Dz L0)) (fun _ i _ _ _ _ _ _ _=>k-(intOf i).toNat)
     case atStart=>exact⟨0,false,_,_,by omega,rfl,rfl,HW.o,Nat.le_refl _⟩
     case round=>
      obtain⟨m,ag,bd,L1,hm,rfl,rfl,HW⟩:=hrel;by_cases hlt:m<k
      case neg=>
       go_wp2_with fail
       go_roundw
       case rel=>exact⟨ag,bd,L1,rfl,HW.o.1⟩
       case measure=>
        rw[HR.o,HW.o.1.rest];have:=HW.o.2;simp only[I7]at this⊢;omega
      have hltI:(m:Int)<(k:Int):=by omega
      obtain⟨p2,p3,p6,p7,p8,z8⟩:=HW.o.1.gr.cells;obtain⟨b,hb,o0⟩:=(H.o.2.1.at_ HW.o.1.gr.bel).1 m hlt;have hbI:(b:Int)<(k:Int):=by omega
      obtain⟨t,_,ht,i0⟩:=HW.o.1.gr.isAt hb;have htI:(t:Int)<(k:Int):=by omega
      have n0:=HW.o.1.inAt hb;obtain⟨y,hy,hyb,b0,z0⟩:=HW.o.1.at_ ht;cases hP:P b
      case false=>
       rw[hP]at n0;go_wp2_with fail
       go_roundw
       case rel=>exact⟨m+1,ag,bd,L1,by omega,rfl,by go_num,HW⟩
       case measure=>simp[intOf];omega
      rw[hP]at n0;by_cases hy0:y<0
      . go_wp2_with fail
        go_roundw
        case rel=>exact⟨m+1,ag,bd,L1,by omega,rfl,by go_num,HW⟩
        case measure=>simp[intOf];omega
      obtain⟨a,c,g0',hr⟩:=H.o.2.1.gr b hb;have g0:=Ad HW.o.1.gr.bel g0';have HE:Hid (KP w (.slice a (E b).length c) (E b)/\∀y∈E b,y<k):=⟨hr,H.o.2.1.eb b hb⟩
      have hE2:=H.o.2.1.sz b;have HY:Hid (∃y,L1[t]?=some y/\0<=y):=⟨y,hy,by omega⟩
      generalize hEb:E b=eb at HE g0 hE2;go_wp2_with fail
      go_loopw [10,15,16,17] (fun a j _ _ wr=>∃(q:Nat) (ag bd:Bool) (L:List Int),q<=eb.length/\a=.bool ag/\j=iZ q/\Hid (Wy w u wr G k x bd I C gn cn P u.heap.size L/\Dz L+I7 (.bool ag)<=Dz L0/\∃y,L[t]?=some y/\0<=y)) (fun _ j _ _ _=>eb.length-(intOf j).toNat)
      case atStart=>exact⟨0,ag,bd,L1,by omega,rfl,rfl,HW.o.1,HW.o.2,HY.o⟩
      case round=>
       obtain⟨q,ag,bd,L2,hq,rfl,rfl,HW⟩:=hrel;by_cases hlq:q<eb.length
       case neg=>
        go_wp2_with fail
        go_roundw
        case rel=>exact⟨m+1,ag,bd,L2,by omega,rfl,by go_num,HW.o.1,HW.o.2.1⟩
        case measure=>simp[intOf];omega
       have hlqI:(q:Int)<(eb.length:Int):=by omega
       obtain⟨ga,oa,ea,_,e0⟩:=HE.o.1.at_ (aA hlq);have hto:eb[q]<k:=HE.o.2 _ (be hlq);subst ea;generalize eb[q]=z at hto e0;have htoI:(z:Int)<(k:Int):=by omega
       have HT:Hid (w.cell? ⟨ga,oa+q,none⟩=some (iZ (z:Int))):=e0;obtain⟨r,hr,hrk,_⟩:=HW.o.1.gr.isAt hto;have hrI:(r:Int)<(k:Int):=by omega
       have HC:Hid (∀(W:World) (bd:Bool) (L:List Int),Wy w u W G k x bd I C gn cn P u.heap.size L->W.cell? ⟨G,6,none⟩=some (sG x.gi k x.ci)/\W.cell? ⟨ga,oa+q,none⟩=some (iZ (z:Int))/\W.cell? ⟨x.gi,z,none⟩=some (iZ (r:Int))):=fun W bd L hW=>by
        obtain⟨y',h1,_,h2⟩:=hW.gr.isAt hto;rw[hr]at h1;cases h1
        exact⟨hW.gr.cells.2.2.1,Ad hW.gr.bel HT.o,h2⟩
       go_upto_region 21 with fail
       have HD:Hid (Wy w u wr.drew G k x bd I C gn cn P u.heap.size L2/\Dz L2+I7 (.bool ag)<=Dz L0/\∃y,L2[t]?=some y/\0<=y):=⟨HW.o.1.keep (Ae _),HW.o.2⟩
       refine wp_region_held_drew (S:=fun W=>W.cell? ⟨G,6,none⟩=some (sG x.gi k x.ci)/\W.cell? ⟨ga,oa+q,none⟩=some (iZ (z:Int))/\W.cell? ⟨x.gi,z,none⟩=some (iZ (r:Int))) (by kernel_rfl) (by exact HC.o _ _ _ HD.o.1) (fun hHeld=> ?_)
       generalize wr.drew=UD at HD hHeld⊢;refine Ar 0 ?_;refine Ar 1 ?_;refine Ar 2 ?_;refine Ar 3 ?_;refine Ar 4 ?_;refine Ar 5 ?_;refine Ar 6 ?_;refine Ar 7 ?_;refine Ar 8 ?_;refine Ar 9 ?_;refine Ar 10 ?_;refine wpAnyH_done (by kernel_rfl) ?_ _;have n1:=HD.o.1.inAt hto;obtain⟨_,e1,_⟩:=HC.o _ _ _ HD.o.1;by_cases hsk:P z=false\/r=t\/r=f
       case pos=>
        cases hPz:P z
        case false=>
         rw[hPz]at n1;go_wp2_with fail
         go_roundw
         case rel=>exact⟨q+1,ag,bd,L2,by omega,rfl,by go_num,HD⟩
         case measure=>simp[intOf];omega
        rw[hPz]at n1;by_cases hrt:r=t
        . subst hrt
          go_wp2_with fail
          go_roundw
          case rel=>exact⟨q+1,ag,bd,L2,by omega,rfl,by go_num,HD⟩
          case measure=>simp[intOf];omega
        . have hrf:r=f:=by rcases hsk with e|e|e;{rw[hPz]at e;cases e};{exact absurd e hrt};{exact e}
          subst hrf;have hrt':((r:Int)==(t:Int))=false:=by simp;omega
          go_wp2_with fail
          go_roundw
          case rel=>exact⟨q+1,ag,bd,L2,by omega,rfl,by go_num,HD⟩
          case measure=>simp[intOf];omega
       have hPz:P z=true:=by cases e:P z;{exact absurd (.inl e) hsk};{rfl}
       rw[hPz]at n1;have hrt':((r:Int)==(t:Int))=false:=by simp;intro e;exact hsk (.inr (.inl (by omega)))
       have hrf':((r:Int)==(f:Int))=false:=by simp;intro e;exact hsk (.inr (.inr (by omega)))
       have HRT:Hid (r≠t):=fun e=>hsk (.inr (.inl e))
       go_upto_region 23 with fail
       obtain⟨yt,hyt,hyt0⟩:=HD.o.2.2;obtain⟨yr,hyr,hyrC,_⟩:=HD.o.1.gr.costAt hrk
       have HC2:Hid (∀(W:World) (bd:Bool),Wy w u W G k x bd I C gn cn P u.heap.size L2->W.cell? ⟨u.heap.size,t,none⟩=some (iZ yt)/\W.cell? ⟨G,7,none⟩=some (sG x.gc k x.cc)/\W.cell? ⟨x.gc,r,none⟩=some (iZ yr)):=fun W bd hW=>by
        obtain⟨y1,h1,_,h2⟩:=hW.gr.costAt hrk;obtain⟨y2,h3,_,h4,_⟩:=hW.at_ ht;rw[hyr]at h1;rw[hyt]at h3;cases h1
        cases h3
        exact⟨h4,hW.gr.cells.2.2.2.1,h2⟩
       have HYT:Hid (Kd yt/\Kd yr/\L2[t]?=some yt):=⟨⟨hyt0,by obtain⟨y2,h3,h4,_⟩:=HD.o.1.at_ ht;rw[hyt]at h3;cases h3;exact h4.2⟩,hyrC,hyt⟩
       have HF:Hid (Wy w u UD.drew G k x bd I C gn cn P u.heap.size L2/\Dz L2+I7 (.bool ag)<=Dz L0):=⟨HD.o.1.keep (Ae _),HD.o.2.1⟩
       refine wp_region_held_drew (S:=fun W=>W.cell? ⟨u.heap.size,t,none⟩=some (iZ yt)/\W.cell? ⟨G,7,none⟩=some (sG x.gc k x.cc)/\W.cell? ⟨x.gc,r,none⟩=some (iZ yr)) (by kernel_rfl) (by exact HC2.o _ _ HF.o.1) (fun hHeld=> ?_)
       generalize UD.drew=U2 at HF hHeld⊢;refine Ar 0 ?_;refine Ar 1 ?_;refine Ar 2 ?_;refine Ar 3 ?_;refine Ar 4 ?_;refine Ar 5 ?_;refine Ar 6 ?_;refine Ar 7 ?_;refine Ar 8 ?_;refine Ar 9 ?_;refine Ar 10 ?_;refine Ar 11 ?_;refine FL 12 ?_;intro KC hKC;go_simp;refine(Fj G yt yr _ U2 HYT.o.1 HYT.o.2.1 HF.o.1.gr.cells.2.2.2.2.1 HF.o.1.gr.cells.2.2.2.2.2).mono ?_;rintro e U3 ⟨cc,rfl,hcc,hU⟩
       have HG:Hid (∃bd,Wy w u U3 G k x bd I C gn cn P u.heap.size L2):=by
        rcases hU with rfl|rfl
        . exact⟨_,HF.o.1⟩
        . exact⟨_,HF.o.1.bad_⟩
       have HL:Hid (Dz L2+I7 (.bool ag)<=Dz L0):=HF.o.2;refine hKC.o _ _ (by obtain⟨bd,hW⟩:=HG.o;exact HC2.o _ _ hW) (fun hHeld=> ?_);refine Ar 13 ?_;refine wpAnyH_done (by kernel_rfl) ?_ _;obtain⟨bd3,hW3⟩:=HG.o;have HW3:Hid (Wy w u U3 G k x bd3 I C gn cn P u.heap.size L2):=hW3;obtain⟨yo,hyo,_,o1,z1⟩:=HW3.o.at_ hrk;by_cases hgt:cc>yo
       . have HN:Hid (Wy w u (U3.setCell ⟨u.heap.size,r,none⟩ (iZ cc)) G k x bd3 I C gn cn P u.heap.size (L2.set r cc)/\Dz (L2.set r cc)+I7 (.bool true)<=Dz L0/\∃y,(L2.set r cc)[t]?=some y/\0<=y):=by
          refine⟨HW3.o.set r ⟨by have:=hcc.1;omega,hcc.2⟩,?_,yt,?_,HYT.o.1.1⟩
          . have h1:=PU hyo hgt hcc.2
            have h2:=HL.o;show _+1<=_;omega
          . rw[cJ HRT.o]
            exact HYT.o.2.2
         go_wp2_with fail
         go_roundw
         case rel=>exact⟨q+1,true,bd3,_,by omega,rfl,by go_num,HN⟩
         case measure=>simp[intOf];omega
       . go_wp2_with fail
         go_roundw
         case rel=>exact⟨q+1,ag,bd3,L2,by omega,rfl,by go_num,HW3.o,HL.o,yt,HYT.o.2.2,HYT.o.1.1⟩
         case measure=>simp[intOf];omega
def EG(p:MP)(fi:Int)(l:ML):Prop:=AV p 0/\0<=fi/\∃f r,p.funcs[fi.toNat]?=some f/\BO f.code r/\r.code=0/\l∈r.loops
def Js(p:MP)(fi:Int)(l:ML)(f:MF)(r:IL):Prop:=AV p 0/\0<=fi/\p.funcs[fi.toNat]?=some f/\BO f.code r/\r.code=0/\l∈r.loops
def Rx(p:MP)(fi:Int)(l:ML)(n:Int):Prop:=(¬EG p fi l/\n=7)\/∃f r,Js p fi l f r/\BK p fi f.code r.blocks l n
theorem Js.own{p:MP}{fi:Int}{l:ML}{f:MF}{r:IL}(h:Js p fi l f r):EG p fi l:=⟨h.1,h.2.1,f,r,h.2.2⟩
theorem Js.one{p:MP}{fi:Int}{l:ML}{f f':MF}{r r':IL}(h:Js p fi l f r)(h':Js p fi l f' r'):f=f'/\r=r':=by
 have e:=h.2.2.1;rw[h'.2.2.1]at e;have e:=(aZ e).symm;subst e;exact⟨rfl,h.2.2.2.1.one h'.2.2.2.1⟩
theorem Rx.one{p:MP}{fi:Int}{l:ML}{n n':Int}(h:Rx p fi l n)(h':Rx p fi l n'):n=n':=by
 rcases h with⟨a,rfl⟩|⟨f,r,a,h⟩<;>rcases h' with⟨a',rfl⟩|⟨f',r',a',h'⟩
 . rfl
 . exact absurd a'.own a
 . exact absurd a.own a'
 . obtain⟨rfl,rfl⟩:=a.one a'
   exact h.one h'
theorem FA{xs:List MI}{r:IL}(h:BO xs r):r.loops.length<=1024/\∀m∈r.loops,m.back.length<=1048576/\m.blocks.length<=1048576:=by
 by_cases h0:r.code=0
 . have q:=h.inn h0
   exact⟨q.nl,fun m hm=>⟨by have:=(q.loop m hm).2.2.2;omega,by have:=(q.loop m hm).2.2.1;omega⟩⟩
 . cases h with
   |none _=>exact⟨by simp[GY],fun m hm=>by cases hm⟩
   |off _ _ _=>exact⟨by simp[GY],fun m hm=>by cases hm⟩
   |lost _ _ _ _ _ _ _ _=>exact⟨by simp[GY],fun m hm=>by cases hm⟩
   |two _ _ _ _ _ _ _ _=>exact⟨by simp[GY],fun m hm=>by cases hm⟩
   |good _ _ _ _ _ _ _ _ _=>exact absurd rfl h0
theorem BK.c1{p:MP}{fi:Int}{xs:List MI}{bs:List MB}{l:ML}{hb:MB}(h:bs[l.head.toNat]?=some hb)(h1:Dt p.certs fi hb.first=none):BK p fi xs bs l 1:=⟨hb,h,.inl ⟨h1,rfl⟩⟩
structure Pi(p:MP)(fi:Int)(xs:List MI)(bs:List MB)(l:ML)(hb:MB)(c:MT)(g:MI):Prop where
 is_:bs[l.head.toNat]?=some hb
 cert:Dt p.certs fi hb.first=some c
 at_:xs[hb.first.toNat]?=some g
theorem BK.c2{p:MP}{fi:Int}{xs:List MI}{bs:List MB}{l:ML}{hb:MB}{c:MT}{g:MI}(h:Pi p fi xs bs l hb c g)(h2:¬(g.op=27/\g.a=c.counter)):BK p fi xs bs l 2:=⟨hb,h.is_,.inr ⟨c,g,h.cert,h.at_,.inl ⟨h2,rfl⟩⟩⟩
theorem BK.c3{p:MP}{fi:Int}{xs:List MI}{bs:List MB}{l:ML}{hb:MB}{c:MT}{g:MI}(h:Pi p fi xs bs l hb c g)(h2:g.op=27/\g.a=c.counter)(h3:Hf bs l.blocks g.c):BK p fi xs bs l 3:=⟨hb,h.is_,.inr ⟨c,g,h.cert,h.at_,.inr ⟨h2,.inl ⟨h3,rfl⟩⟩⟩⟩
theorem BK.c4{p:MP}{fi:Int}{xs:List MI}{bs:List MB}{l:ML}{hb:MB}{c:MT}{g:MI}(h:Pi p fi xs bs l hb c g)(h2:g.op=27/\g.a=c.counter)(h3:¬Hf bs l.blocks g.c)(h4:∃a,Hf bs l.blocks a/\a≠hb.first/\NF xs c.counter a):BK p fi xs bs l 4:=⟨hb,h.is_,.inr ⟨c,g,h.cert,h.at_,.inr ⟨h2,.inr ⟨h3,.inl ⟨h4,rfl⟩⟩⟩⟩⟩
theorem BK.c5{p:MP}{fi:Int}{xs:List MI}{bs:List MB}{l:ML}{hb:MB}{c:MT}{g:MI}(h:Pi p fi xs bs l hb c g)(h2:g.op=27/\g.a=c.counter)(h3:¬Hf bs l.blocks g.c)(h4:¬∃a,Hf bs l.blocks a/\a≠hb.first/\NF xs c.counter a)(h5:l.head=0\/KO p.consts xs bs l c):BK p fi xs bs l 5:=⟨hb,h.is_,.inr ⟨c,g,h.cert,h.at_,.inr ⟨h2,.inr ⟨h3,.inr ⟨h4,.inl ⟨h5,rfl⟩⟩⟩⟩⟩⟩
theorem BK.c0{p:MP}{fi:Int}{xs:List MI}{bs:List MB}{l:ML}{hb:MB}{c:MT}{g:MI}(h:Pi p fi xs bs l hb c g)(h2:g.op=27/\g.a=c.counter)(h3:¬Hf bs l.blocks g.c)(h4:¬∃a,Hf bs l.blocks a/\a≠hb.first/\NF xs c.counter a)(h5:¬(l.head=0\/KO p.consts xs bs l c)):BK p fi xs bs l 0:=⟨hb,h.is_,.inr ⟨c,g,h.cert,h.at_,.inr ⟨h2,.inr ⟨h3,.inr ⟨h4,.inr ⟨h5,rfl⟩⟩⟩⟩⟩⟩
theorem OT{u:World}{a:Option Addr}{n c:Nat}{ls:List ML}(h:Mq u (.slice a n c) ls){k:Nat}{m:ML}(hk:ls[k]?=some m):∃g o a1 e1 a2 e2,a=some ⟨g,o,none⟩/\u.cell? ⟨g,o+k*3,none⟩=some (.int .i64 m.head)/\u.cell? ⟨g,o+k*3+1,none⟩=some (.slice a1 m.back.length e1)/\u.cell? ⟨g,o+k*3+2,none⟩=some (.slice a2 m.blocks.length e2)/\RE u (m,.slice a1 m.back.length e1,.slice a2 m.blocks.length e2):=by
 obtain⟨xs,h1,h2,h3⟩:=h;have hi:=(aE.1 hk).1
 obtain⟨⟨m',w1,w2⟩,hx,hx1⟩:∃x,xs[k]?=some x/\x.1=m:=by
  rw[<-h1,bQ]at hk;exact bz.1 hk
 simp only[]at hx1;subst hx1;have hr:=h3 _ (aF hx);obtain⟨a1,e1,q1⟩:=Rd.is_slice hr.1;obtain⟨a2,e2,q2⟩:=Rd.is_slice hr.2;simp only[]at q1 q2;subst q1 q2;rcases h2.2 with⟨e,_⟩|⟨gg,oo,cc,e,hc⟩
 . omega
 . simp only[aI]at e
   have j0:=Rd.elem Cn hc k _ hx 0 _ rfl;have j1:=Rd.elem Cn hc k _ hx 1 _ rfl;have j2:=Rd.elem Cn hc k _ hx 2 _ rfl;rw[aT]at j0;exact⟨gg,oo,a1,e1,a2,e2,e.1,j0,j1,j2,hr⟩
theorem Ge{u:World}{a:Option Addr}{n c:Nat}{bs:List MB}(h:Jt u (.slice a n c) bs){k:Nat}{m:MB}(hk:bs[k]?=some m):∃g o a1 e1,a=some ⟨g,o,none⟩/\u.cell? ⟨g,o+k*3,none⟩=some (.int .i64 m.first)/\u.cell? ⟨g,o+k*3+1,none⟩=some (.int .i64 m.last)/\u.cell? ⟨g,o+k*3+2,none⟩=some (.slice a1 m.next.length e1)/\RC u (.slice a1 m.next.length e1) m:=by
 obtain⟨xs,h1,h2,h3⟩:=h;have hi:=(aE.1 hk).1
 obtain⟨⟨m',w1⟩,hx,hx1⟩:∃x,xs[k]?=some x/\x.1=m:=by
  rw[<-h1,bQ]at hk;exact bz.1 hk
 simp only[]at hx1;subst hx1;have hr:=h3 _ (aF hx);obtain⟨a1,e1,q1⟩:=Rd.is_slice hr;simp only[]at q1;subst q1;rcases h2.2 with⟨e,_⟩|⟨gg,oo,cc,e,hc⟩
 . omega
 . simp only[aI]at e
   have j0:=Rd.elem Bl hc k _ hx 0 _ rfl;have j1:=Rd.elem Bl hc k _ hx 1 _ rfl;have j2:=Rd.elem Bl hc k _ hx 2 _ rfl;rw[aT]at j0;exact⟨gg,oo,a1,e1,e.1,j0,j1,j2,hr⟩
theorem Fu.keepL{w w':World}{vb vo vi vl:Value}{r:IL}(h:Fu w vb vo vi vl r){B:Nat}(hb:Below B w w')(hB:w.heap.size<=B):Fu w' vb vo vi vl r:=⟨h.blocks.keep hb hB,h.order.keep hb hB,h.idom.keep hb hB,h.loops.keep hb hB⟩
theorem J8{w:World}{vb vo vi vl:Value}{r:IL}(h:Fu w vb vo vi vl r):∃v1 c1 v2 c2 v3 c3 v4 c4,vb=.slice v1 r.blocks.length c1/\vo=.slice v2 r.order.length c2/\vi=.slice v3 r.idom.length c3/\vl=.slice v4 r.loops.length c4:=by
 obtain⟨v1,c1,e1⟩:∃a c,vb=.slice a r.blocks.length c:=by obtain⟨_,_,h2,_⟩:=h.blocks;exact h2.is_slice
 obtain⟨v2,c2,e2⟩:=h.order.is_slice;obtain⟨v3,c3,e3⟩:=h.idom.is_slice;obtain⟨v4,c4,e4⟩:∃a c,vl=.slice a r.loops.length c:=by obtain⟨_,_,h2,_⟩:=h.loops;exact h2.is_slice
 exact⟨v1,c1,v2,c2,v3,c3,v4,c4,e1,e2,e3,e4⟩
structure NG(w u:World)(v:VP)(lv:VL)(l:ML)(FB:Nat)(r:IL)(z1 z2 z3 z4:Value):Prop where
 pb:Ap u w.heap.size #[v.r,v.k,v.f,v.t] 28
 lb:Ap u (w.heap.size+1) #[.int .i64 l.head,lv.b,lv.k] 171
 fb:Ap u FB #[.int .i64 r.code,.int .i64 r.at_,z1,z2,z3,z4] 163
 rf:Fu u z1 z2 z3 z4 r
 bel:Below w.heap.size w u
theorem NG.keep{w u u':World}{v:VP}{lv:VL}{l:ML}{FB:Nat}{r:IL}{z1 z2 z3 z4:Value}(h:NG w u v lv l FB r z1 z2 z3 z4)(hb:Below u.heap.size u u'):NG w u' v lv l FB r z1 z2 z3 z4:=⟨h.pb.keep hb,h.lb.keep hb,h.fb.keep hb,h.rf.keepL hb lR,Ab h.bel lR hb⟩
theorem Sx{bs:List MB}{ls:List Int}{j b:Nat}{z:Int}{m:MB}{a:Int}(hz:ls[j]?=some z)(hb:z=(b:Int))(hm:bs[b]?=some m)(h1:m.first<=a)(h2:a<=m.last):Hf bs ls a:=⟨z,aF hz,m,by rw[hb,aX];exact hm,h1,h2⟩
theorem Lb{bs:List MB}{ls:List Int}{P:Int->Prop}(h:∀(j:Nat) (z:Int) (m:MB),ls[j]?=some z->bs[z.toNat]?=some m->∀a,m.first<=a->a<=m.last->¬P a):¬∃a,Hf bs ls a/\P a:=by
 rintro⟨a,⟨z,hz,m,hm,h1,h2⟩,hp⟩;obtain⟨j,hj⟩:=bt hz;exact h j z m hj hm a h1 h2 hp
def Ha(p:MP)(f:MF)(x:MI)(sh:List Int):Int:=if x.op=29 then(if sh=BJ f then 0 else 5)else CK p f x sh
def Np(p:MP)(f:MF)(x:MI)(sh:List Int):List Int:=if x.op=29 then[]else Hq p f x sh
structure WS where
 c:Nat->Option (List Int)
 t:Nat->List Int
 d:Nat
def Iq(T:Nat->List Int)(a:Nat)(sh:List Int):Nat->List Int:=fun j=>if j=a then sh else T j
def Jl(C:Nat->Option (List Int))(b:Nat)(sh:List Int):Nat->Option (List Int):=fun j=>if j=b then some sh else C j
abbrev Uy:=Sum (Int×Nat) (List Int×(Nat->List Int)×Nat)
def FX(p:MP)(f:MF):Nat->Nat->List Int->(Nat->List Int)->Nat->Uy
 |0,_,sh,T,D=>.inr (sh,T,D)
 | c+1,a,sh,T,D=>match f.code[a]? with
   |none=>.inr (sh,T,D)
   |some x=>if Ha p f x sh=0 then FX p f c (a+1) (Np p f x sh) (Iq T a sh) (max D (Np p f x sh).length)else .inl (Ha p f x sh,a)
def Ih:List Nat->List Int->(Nat->Option (List Int))->Option (Nat->Option (List Int))
 |[],_,C=>some C
 | t::r,sh,C=>match C t with
   |none=>Ih r sh (Jl C t sh)
   |some s=>if s=sh then Ih r sh C else none
abbrev Jw:=Sum (Int×Nat) WS
def Ri(p:MP)(f:MF)(m:MB)(b:Nat)(s:WS):Jw:=match FX p f (m.last-m.first+1).toNat m.first.toNat ((s.c b).getD []) s.t s.d with
 |.inl e=>.inl e
 | .inr (sh,T,D)=>match Ih (m.next.map Int.toNat) sh s.c with
   |none=>.inl (4,m.last.toNat)
   |some C=>.inr ⟨C,T,D⟩
def GZ(p:MP)(f:MF)(bs:List MB):List Nat->WS->Jw
 |[],s=>.inr s
 | b ::r,s=>match bs[b]? with
   |none=>.inr s
   | some m=>match Ri p f m b s with
     |.inl e=>.inl e
     |.inr s'=>GZ p f bs r s'
def Pe:WS:=⟨fun b=>if b=0 then some []else none,fun _=>[],0⟩
structure Tx where
 code:Int
 at_:Int
 depth:Int
 shapes:List (List Int)
def Ts(n:Nat):Jw->Tx
 |.inl (c,a)=>⟨c,(a:Int),0,[]⟩
 |.inr s=>⟨0,0,(s.d:Int),(List.range n).map s.t⟩
def NJ(p:MP)(fi:Int)(y:Tx):Prop:=(¬Mf p fi/\y=⟨6,0,0,[]⟩)\/(AV p 0/\0<=fi/\∃f r,p.funcs[fi.toNat]?=some f/\BO f.code r/\r.code=0/\y=Ts f.code.length (GZ p f r.blocks (r.order.map Int.toNat) Pe))
theorem NJ.one{p:MP}{fi:Int}{y y':Tx}(h:NJ p fi y)(h':NJ p fi y'):y=y':=by
 rcases h with⟨a,rfl⟩|⟨q1,q2,f,r,h1,h2,h3,rfl⟩<;>rcases h' with⟨a',rfl⟩|⟨q1',q2',f',r',h1',h2',h3',rfl⟩
 . rfl
 . exact absurd ⟨q1',q2',f',h1',r',h2',h3'⟩ a
 . exact absurd ⟨q1,q2,f,h1,r,h2,h3⟩ a'
 . rw[h1]at h1'
   have e:=aZ h1';subst e;have e:=h2.one h2';subst e;rfl
theorem Pr{L:List Nat}{n b:Nat}{m:MB}(hs:L.Pairwise (· < ·))(hl:∀x∈L,x<n)(h:(build L n)[b]?=some m){i:Nat}(h1:m.first<(i:Int))(h2:(i:Int)<=m.last):i∉L:=by
 unfold build at h;rw[dQ]at h;cases e1:L[b]? with
 |none=>rw[e1]at h;simp at h
 | some a=>
   cases e2:(L.tail++[n])[b]? with
   |none=>rw[e1,e2]at h;simp at h
   | some q=>
     rw[e1,e2]at h;simp only[aM]at h;subst h;simp only[]at h1 h2;intro hi;obtain⟨j,hj⟩:=bt hi;obtain⟨ib,eb⟩:=aE.1 e1;obtain⟨ij,ej⟩:=aE.1 hj;have hp:=dS.1 hs
     have hbj:b<j:=by
      apply dT;intro hn;by_cases e:j=b
      . subst e
        omega
      . have:=hp j b ij ib (by omega)
        omega
     have h3:L[b+1]?=some q:=by
      rw[<-e2,bS (by simp;omega)];cases L<;>simp
     obtain⟨i3,e3⟩:=aE.1 h3;by_cases e:j=b+1
     . subst e
       omega
     . have:=hp (b+1) j i3 ij (by omega)
       omega
theorem PW{xs:List MI}{b:Nat}{m:MB}(h:(AE xs)[b]?=some m):∃m0,(build (Hs xs xs.length) xs.length)[b]?=some m0/\m.first=m0.first/\m.last=m0.last:=by
 unfold AE at h;rw[bQ]at h;obtain⟨m0,h1,rfl⟩:=bz.1 h;rw[Df]at h1;exact⟨m0,h1,rfl,rfl⟩
theorem Re{xs:List MI}{b:Nat}{m:MB}(h:(AE xs)[b]?=some m){i:Nat}{x:MI}(hx:xs[i]?=some x)(h1:m.first<=(i:Int))(h2:(i:Int)<m.last):x.op≠29:=by
 obtain⟨m0,e0,ef,el⟩:=PW h;obtain⟨a,e,q1,q2,q3,q4⟩:=Ja h;intro hop;have hi:i+1<xs.length:=by omega
 refine Pr (FH _ _) (fun x hx=>((Dy _ _ _).1 hx).1) e0 (i:=i+1) (by omega) (by omega) ?_;rw[Dy];exact⟨hi,JU xs xs.length i (i+1) x (by omega) hx (by simp[Ie,hop])⟩
def Rg(s:CR)(u wr:World)(a:Option Addr)(m c:Nat)(zs:List Int)(p:Int):Prop:=zs.length=m/\wr.ownsRow u.heap.size 2 1 (.slice a m c) m (zs.flatMap Ac)/\(∀z∈zs,Ty z)/\D8 wr s.S s.a s.len s.cap p/\AR s.S u wr
theorem Rg.next{s:CR}{u wr:World}{a:Option Addr}{m c:Nat}{zs:List Int}{p:Int}(E:Hid (Rg s u wr a m c zs p))(hu:s.S<u.heap.size){n:Int}(hp:p+1<=1000000000000)(hn:1<=n:=by omega)(hn':n<=1000000:=by omega):Calls Tryz.prog 34 #[.pointer (some ⟨s.S,0,none⟩),.int .i64 n] wr fun e u'=>∃r:Int,e=.returned (.int .i64 r)/\(0<=r/\r<n)/\Hid (Rg s u u' a m c zs (p+1)):=
 have⟨h1,h2,h3,h4,h5⟩:=E.o
 (A5 h4 hp hn hn').mono fun e u' ⟨r,h0,h1',e1,hs,hd⟩=>⟨r,e1,⟨h0,h1'⟩,h1,BM h2 hd.grow (fun b hb e=>by have:=(h2.lt b hb).1;simp only[aM]at e;omega),h3,hs,h5.trans hd⟩
theorem Rg.push{s:CR}{u wr w5:World}{a:Option Addr}{m c g cap:Nat}{zs:List Int}{p t:Int}(E:Hid (Rg s u wr a m c zs p))(hu:s.S<u.heap.size)(h5:w5.ownsRow u.heap.size 2 1 (sG g (m+1) cap) (m+1) ((zs++[t]).flatMap Ac))(h6:(wr.alloc (.cells #[iZ t] 2)).grownBy w5 (Value.slice a m c).ownBlock)(ht:Ty t):Hid (Rg s u w5 (some ⟨g,0,none⟩) (m+1) cap (zs++[t]) p):=
 have⟨h1,h2,h3,h4,h5'⟩:=E.o
 ⟨Nh h1,h5,fun z hz=>by
  rcases ah.1 hz with e|e
  . exact h3 z e
  . rw[bO.1 e];exact ht,(h4.alloc _).keep (fun k hk=>h6.block k (by have:=(h4.alloc (.cells #[iZ t] 2)).lt;omega) (fun e=>by have:=(h2.lt k e.symm).1;omega)),(h5'.trans (.alloc _ _ _)).grown h6 (fun k hk=>(h2.lt k hk).1)⟩
def TK(s:CR)(p m:Int)(k:Nat)(u:World)(e:Ending)(u':World):Prop:=∃(a:Option Addr) (c:Nat) (xs:List Int),e=.returned (.slice a xs.length c)/\u'.ownsRow u.heap.size 2 1 (.slice a xs.length c) xs.length (xs.flatMap Ac)/\xs.length<=k/\(∀z∈xs,Ty z)/\Dr s p m u u'
theorem EW(u:World)(s:CR)(p:Int)(hs:D8 u s.S s.a s.len s.cap p)(hp:p+10<=1000000000000):
 Calls Tryz.prog 33 #[.pointer (some ⟨s.S,0,none⟩)] u (TK s p 10 15 u):=by
 have HU:=Af hs.lt;have E:Hid (Rg s u (u.alloc (.cells #[] 2)) (some ⟨u.heap.size,0,none⟩) 0 0 [] p):=⟨rfl,(OX u).1,(fun z hz=>by cases hz),hs.alloc _,.alloc _ _ _⟩;have hp0:=hs.low;clear hs;go_enter Tryz.func33,Tryz.ntmps33;go_wp2_with fail
 refine(Rg.next E HU.o (by omega)).mono ?_;rintro e u1 ⟨r1,rfl,h1,E⟩;go_wp2_with fail
 go_loopw [3,4,5,6] (fun V i _ _ wr=>∃(j m:Nat) (a:Option Addr) (c:Nat) (xs:List Int) (p':Int),V=.slice a m c/\i=iZ (j:Int)/\j<=3/\m<=5*(3-j)/\(p<=p'/\p'<=p+1+2*(3-(j:Int)))/\Hid (Rg s u wr a m c xs p')) (fun _ i _ _ _=>(intOf i).toNat)
 case atStart=>exact⟨r1.toNat,0,_,_,_,p+1,rfl,by show _=_;congr 1;omega,by omega,by omega,by omega,E⟩
 case round=>
  obtain⟨j,m,a,c,xs,p2,rfl,rfl,hj,hxl,g1,E⟩:=hrel;by_cases hj0:j=0
  case pos=>
   subst hj0;go_wp2_with fail
   go_ret
   obtain⟨rfl,h2,h3,h4⟩:=E.o;exact⟨a,c,xs,rfl,h2,by omega,h3,p2,by omega,h4⟩
  have hjI:(j:Int)>0:=by omega
  go_wp2_with fail
  refine(Rg.next E HU.o (by omega)).mono ?_;rintro e u3 ⟨r3,rfl,h3,E⟩;go_wp2_with fail
  refine(Rg.next E HU.o (by omega)).mono ?_;rintro e u4 ⟨r4,rfl,h4,E⟩;obtain⟨t,ht⟩:∃t,1+r3=t:=⟨_,rfl⟩;have HT:Hid (Ty t):=by show _/\_;omega
  have HX:=Af hxl;clear hxl;go_wp2_with fail
  go_loopw [3,6] (fun V i wr=>∃(q m':Nat) (a:Option Addr) (c:Nat) (zs:List Int),V=.slice a m' c/\i=iZ (q:Int)/\q<=5/\m'<=m+(5-q)/\Hid (Rg s u wr a m' c zs (p2+1+1))) (fun _ i _=>(intOf i).toNat)
  case atStart=>exact⟨(1+r4).toNat,m,a,c,xs,rfl,by show _=_;congr 1;omega,by omega,by omega,E⟩
  case round=>
   obtain⟨q,m',a,c,zs,rfl,rfl,hq,hzl,E⟩:=hrel;by_cases hq0:q=0
   case pos=>
    subst hq0;obtain⟨j',rfl⟩:∃j',j=j'+1:=⟨j-1,by omega⟩;go_wp2_with fail
    go_roundw
    case rel=>exact⟨j',m',a,c,zs,p2+1+1,rfl,by go_num,by omega,by have:=HX.o;omega,by omega,E⟩
    case measure=>simp[intOf]
   have hqI:(q:Int)>0:=by omega
   have hzb:m'<=100:=by have:=HX.o;omega
   go_wp2_with (first|(at_builtin;refine SO E.o.2.1 E.o.2.2.2.2.size ?_;intro g5 cap5 w5 h5 h6;have E5:=Rg.push E HU.o h5 h6 HT.o;clear h5 h6)|go_in)
   obtain⟨q',rfl⟩:∃q',q=q'+1:=⟨q-1,by omega⟩;go_roundw
   case rel=>exact⟨q',m'+1,some ⟨g5,0,none⟩,cap5,zs++[t],rfl,by go_num,by omega,by omega,E5⟩
   case measure=>simp[intOf]
end Go.Proofs.YtjcamlobelcepaaGreatDoor
