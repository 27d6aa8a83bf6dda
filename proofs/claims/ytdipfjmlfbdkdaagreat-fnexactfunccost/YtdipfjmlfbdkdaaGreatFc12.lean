import Derived.Test.YtdipfjmlfbdkdaaGreatFc11
import Derived.Shelf.SlicesG.Reverse
import Derived.Shelf.Bits.Mul64
import Derived.Shelf.Lay
import Derived.Ground.NamesProg
import Derived.Shelf.SlSortCmp.WholeK
import Derived.Ground.SlsfProg
namespace Go.Proofs
open Go.Shelf
def Tryz.lReverse_ren:Go.Shelf.Ren:=⟨fun|35=>117|n=>n,fun|22=>28|23=>2|3=>3|4=>4|0=>0|n=>n,fun|n=>n⟩
theorem Tryz.lReverse:Go.Proofs.SlLaysN.n35 Tryz.prog Tryz.lReverse_ren:={
 mixed:=by kernel_rfl
 f35:=⟨Tryz.f117.name,by decide,Tryz.func117.trans (congrArg some (by kernel_rfl))⟩
 t0:=Tryz.underlying0
 a0:=Tryz.isAgg0
 z0:=Tryz.sizeOf0
 v0:=Tryz.zeroValue0
 t3:=Tryz.underlying3
 a3:=Tryz.isAgg3
 z3:=Tryz.sizeOf3
 v3:=Tryz.zeroValue3
 t4:=Tryz.underlying4
 a4:=Tryz.isAgg4
 z4:=Tryz.sizeOf4
 v4:=Tryz.zeroValue4
 t22:=Tryz.underlying28
 a22:=Tryz.isAgg28
 z22:=Tryz.sizeOf28
 v22:=Tryz.zeroValue28
 t23:=Tryz.underlying2
 a23:=Tryz.isAgg2
 z23:=Tryz.sizeOf2
 v23:=Tryz.zeroValue2}
def Tryz.lMul_ren:Go.Shelf.Ren:=⟨fun|212=>147|263=>156|264=>157|n=>n,fun|46=>205|51=>70|146=>218|53=>172|148=>220|n=>n,fun|n=>n⟩
theorem Tryz.lMul:Go.Proofs.Lays.n212 Tryz.prog Tryz.lMul_ren:={
 mixed:=by kernel_rfl
 f212:=Tryz.func147.trans (congrArg some (by kernel_rfl))
 f263:=Tryz.func156.trans (congrArg some (by kernel_rfl))
 f264:=Tryz.func157.trans (congrArg some (by kernel_rfl))
 t46:=Tryz.underlying205
 a46:=Tryz.isAgg205
 z46:=Tryz.sizeOf205
 v46:=Tryz.zeroValue205
 t51:=Tryz.underlying70
 a51:=Tryz.isAgg70
 z51:=Tryz.sizeOf70
 v51:=Tryz.zeroValue70
 t53:=Tryz.underlying172
 a53:=Tryz.isAgg172
 z53:=Tryz.sizeOf172
 v53:=Tryz.zeroValue172
 t146:=Tryz.underlying218
 a146:=Tryz.isAgg218
 z146:=Tryz.sizeOf218
 v146:=Tryz.zeroValue218
 t148:=Tryz.underlying220
 a148:=Tryz.isAgg220
 z148:=Tryz.sizeOf220
 v148:=Tryz.zeroValue220}
end Go.Proofs
namespace Go.Proofs
open Go.Shelf
def Tryz.lSortF_ren:Go.Shelf.Ren:=⟨fun|6=>132|15=>149|14=>154|28=>166|29=>167|20=>182|21=>183|22=>184|23=>185|24=>186|25=>187|26=>188|27=>189|46=>200|47=>191|48=>192|49=>201|50=>202|57=>204|n=>n,fun|22=>50|24=>68|25=>167|3=>3|39=>205|0=>0|53=>70|55=>172|4=>4|46=>224|45=>223|50=>185|5=>5|9=>9|66=>236|70=>240|76=>247|77=>248|n=>n,fun|n=>n⟩
theorem Tryz.lSortF:Go.Proofs.SlLaysF0.n6 Tryz.prog Tryz.lSortF_ren:={
 mixed:=by kernel_rfl
 f6:=⟨Tryz.f132.name,by decide,Tryz.func132.trans (congrArg some (by kernel_rfl))⟩
 f14:=⟨Tryz.f154.name,by decide,Tryz.func154.trans (congrArg some (by kernel_rfl))⟩
 f15:=Tryz.func149.trans (congrArg some (by kernel_rfl))
 f20:=⟨Tryz.f182.name,by decide,Tryz.func182.trans (congrArg some (by kernel_rfl))⟩
 f21:=⟨Tryz.f183.name,by decide,Tryz.func183.trans (congrArg some (by kernel_rfl))⟩
 f22:=⟨Tryz.f184.name,by decide,Tryz.func184.trans (congrArg some (by kernel_rfl))⟩
 f23:=⟨Tryz.f185.name,by decide,Tryz.func185.trans (congrArg some (by kernel_rfl))⟩
 f24:=⟨Tryz.f186.name,by decide,Tryz.func186.trans (congrArg some (by kernel_rfl))⟩
 f25:=⟨Tryz.f187.name,by decide,Tryz.func187.trans (congrArg some (by kernel_rfl))⟩
 f26:=⟨Tryz.f188.name,by decide,Tryz.func188.trans (congrArg some (by kernel_rfl))⟩
 f27:=⟨Tryz.f189.name,by decide,Tryz.func189.trans (congrArg some (by kernel_rfl))⟩
 f28:=Tryz.func166.trans (congrArg some (by kernel_rfl))
 f29:=Tryz.func167.trans (congrArg some (by kernel_rfl))
 f46:=⟨Tryz.f200.name,by decide,Tryz.func200.trans (congrArg some (by kernel_rfl))⟩
 f47:=Tryz.func191.trans (congrArg some (by kernel_rfl))
 f48:=Tryz.func192.trans (congrArg some (by kernel_rfl))
 f49:=⟨Tryz.f201.name,by decide,Tryz.func201.trans (congrArg some (by kernel_rfl))⟩
 f50:=⟨Tryz.f202.name,by decide,Tryz.func202.trans (congrArg some (by kernel_rfl))⟩
 f57:=⟨Tryz.f204.name,by decide,Tryz.func204.trans (congrArg some (by kernel_rfl))⟩
 t0:=Tryz.underlying0
 a0:=Tryz.isAgg0
 z0:=Tryz.sizeOf0
 v0:=Tryz.zeroValue0
 t3:=Tryz.underlying3
 a3:=Tryz.isAgg3
 z3:=Tryz.sizeOf3
 v3:=Tryz.zeroValue3
 t4:=Tryz.underlying4
 a4:=Tryz.isAgg4
 z4:=Tryz.sizeOf4
 v4:=Tryz.zeroValue4
 t5:=Tryz.underlying5
 a5:=Tryz.isAgg5
 z5:=Tryz.sizeOf5
 v5:=Tryz.zeroValue5
 t9:=Tryz.underlying9
 a9:=Tryz.isAgg9
 z9:=Tryz.sizeOf9
 v9:=Tryz.zeroValue9
 t22:=Tryz.underlying50
 a22:=Tryz.isAgg50
 z22:=Tryz.sizeOf50
 v22:=Tryz.zeroValue50
 t25:=Tryz.underlying167
 a25:=Tryz.isAgg167
 z25:=Tryz.sizeOf167
 v25:=Tryz.zeroValue167
 t39:=Tryz.underlying205
 a39:=Tryz.isAgg205
 z39:=Tryz.sizeOf205
 v39:=Tryz.zeroValue205
 t45:=Tryz.underlying223
 a45:=Tryz.isAgg223
 z45:=Tryz.sizeOf223
 v45:=Tryz.zeroValue223
 t46:=Tryz.underlying224
 a46:=Tryz.isAgg224
 z46:=Tryz.sizeOf224
 v46:=Tryz.zeroValue224
 t50:=Tryz.underlying185
 a50:=Tryz.isAgg185
 z50:=Tryz.sizeOf185
 v50:=Tryz.zeroValue185
 t53:=Tryz.underlying70
 a53:=Tryz.isAgg70
 z53:=Tryz.sizeOf70
 v53:=Tryz.zeroValue70
 t55:=Tryz.underlying172
 a55:=Tryz.isAgg172
 z55:=Tryz.sizeOf172
 v55:=Tryz.zeroValue172
 t66:=Tryz.underlying236
 a66:=Tryz.isAgg236
 z66:=Tryz.sizeOf236
 v66:=Tryz.zeroValue236
 t70:=Tryz.underlying240
 a70:=Tryz.isAgg240
 z70:=Tryz.sizeOf240
 v70:=Tryz.zeroValue240
 t76:=Tryz.underlying247
 a76:=Tryz.isAgg247
 z76:=Tryz.sizeOf247
 v76:=Tryz.zeroValue247
 t77:=Tryz.underlying248
 a77:=Tryz.isAgg248
 z77:=Tryz.sizeOf248
 v77:=Tryz.zeroValue248}
end Go.Proofs
namespace Go.Proofs.YtdipfjmlfbdkdaaGreat
open Go.ChangeShapes Go.WideShapes Go.ChangeAt Go.RowKit
set_option linter.unusedVariables false
set_option maxHeartbeats 8000000
set_option maxRecDepth 100000
structure Hf(E:Nat->List Nat)(n:Nat)(D:Nat->Nat->Bool)(Dn:Nat->Prop)(J:Nat->Nat):Prop where
 st:∀b,b<n->(J b=b/\∀h,Dn h->¬Ar E D n h b)\/(Dn (J b)/\Ar E D n (J b) b/\∀h,Dn h->Ar E D n h b->∀y,Ar E D n h y->Ar E D n (J b) y)
 dl:∀h,Dn h->h<n
structure NN(E:Nat->List Nat)(n:Nat)(D:Nat->Nat->Bool)(Dn:Nat->Prop)(J:Nat->Nat)(inn:Nat->Prop)(h:Nat):Prop where
 lt:∀b,inn b->b<n
 hd:inn h
 pr:∀b,inn b->b≠h->∀p,p<n->b∈E p->inn p
 dn:∀x,inn x->x≠h->An E D n x≠[]->Dn x
 jh:J h=h
 jo:∀b,inn b->J b=h->b=h
 z:inn 0->h=0
section
variable {E:Nat->List Nat} {n:Nat} {pl:Nat->Nat} {D:Nat->Nat->Bool} {Dn:Nat->Prop} {J:Nat->Nat} {inn:Nat->Prop} {a b h k x y p:Nat}
theorem EF.same(g:EF E n pl D)(ha:a<n)(hb:b<n)(h1:∀y,Ar E D n a y->Ar E D n b y)(h2:∀y,Ar E D n b y->Ar E D n a y):a=b:=
 (Ca.anti g.P ha hb (g.in_dom (h1 a (.inl rfl))) (g.in_dom (h2 b (.inl rfl)))).symm
theorem Hf.dom(g:EF E n pl D)(s:Hf E n D Dn J)(hb:b<n):Ca E (J b) b/\J b<n/\pl (J b)<=pl b:=by
 have h1:Ca E (J b) b:=by
  rcases s.st b hb with⟨h,_⟩|⟨_,h,_⟩
  . rw[h];exact Ca.self _ _
  . exact g.in_dom h
 exact⟨h1,FG g.P g.R hb h1,(h1.way g.P hb).2.1⟩
theorem NN.edge(g:EF E n pl D)(s:Hf E n D Dn J)(r:NN E n D Dn J inn h)(hb:inn b)(he:x∈E b)(hx:inn x)(h1:J x≠J b)(h2:J x≠h):J x=x/\pl b<pl x:=by
 have hbn:=r.lt b hb;have hxn:=r.lt x hx;have hxh:x≠h:=fun e=>h2 (by rw[e,r.jh])
 have key:∀k,Dn k->Ar E D n k b->Ar E D n k x->J x=k->False:=fun k hk hkb hkx hJ=>by
  rcases s.st b hbn with⟨_,q⟩|⟨q1,q2,q3⟩
  . exact q k hk hkb
  . rcases s.st x hxn with⟨_,u⟩|⟨u1,u2,u3⟩
    . exact u k hk hkx
    . rw[hJ]at u3
      have e1:=q3 k hk hkb;have e2:=u3 _ q1 (e1 x hkx);exact h1 (by rw[hJ];exact g.same (s.dl k hk) (s.dl _ q1) e1 e2)
 have hJ:J x=x:=by
  rcases s.st x hxn with⟨q,_⟩|⟨q1,q2,q3⟩
  . exact q
  . by_cases e:x=J x
    . exact e.symm
    . exact(key _ q1 (EF.pred q2 e hbn he) q2 rfl).elim
 refine⟨hJ,?_⟩;rcases Nat.lt_or_ge (pl b) (pl x)with hl|hl
 . exact hl
 . obtain⟨i1,i2⟩:=g.head hbn he (g.B b hbn x he hl)
   have hd:=r.dn x hx hxh (fun e=>by rw[e]at i1;cases i1);exact(key x hd i2 (.inl rfl) hJ).elim
theorem NN.topo(g:EF E n pl D)(s:Hf E n D Dn J)(r:NN E n D Dn J inn h)(ha:inn a)(hb:inn b)(he:x∈E b)(hx:inn x)(h1:J x≠J b)(h2:J x≠h)(h3:J x=J a):pl b<pl a:=by
 obtain⟨i1,i2⟩:=r.edge g s hb he hx h1 h2;have:=(s.dom g (r.lt a ha)).2.2;rw[<-h3,i1]at this;omega
structure Pz(E:Nat->List Nat)(inn:Nat->Prop)(J:Nat->Nat)(h:Nat)(C t:Nat->Int):Prop where
 hd:t h=C h
 ed:∀b x,inn b->x∈E b->inn x->J x≠J b->J x≠h->t (J b)+C (J x)<=t (J x)
structure RA(E:Nat->List Nat)(inn:Nat->Prop)(J:Nat->Nat)(h:Nat)(C s:Nat->Int):Prop where
 clo:Pz E inn J h C s
 le:∀t,Pz E inn J h C t->∀b,inn b->s (J b)<=t (J b)
theorem RA.one{C s s':Nat->Int}(h1:RA E inn J h C s)(h2:RA E inn J h C s')(hb:inn b):s (J b)=s' (J b):=
 Int.le_antisymm (h1.le _ h2.clo b hb) (h2.le _ h1.clo b hb)
theorem Pz.nonneg{C t:Nat->Int}(g:EF E n pl D)(r:NN E n D Dn J inn h)(hC:∀c,0<=C c)(ht:Pz E inn J h C t)(hb:inn b):0<=t (J b):=by
 suffices ∀m b,pl b<=m->inn b->0<=t (J b)from this _ b lR hb
 intro m;induction m with
 | zero=>
   intro b h1 h2;by_cases e:b=h
   . rw[e,r.jh,ht.hd];exact hC _
   . have h0:b≠0:=fun q=>by subst q;exact e (r.z h2).symm
     have:=g.P.first b (r.lt b h2) h0;omega
 | succ m ih=>
   intro b h1 h2;by_cases e:b=h
   . rw[e,r.jh,ht.hd];exact hC _
   . have h0:b≠0:=fun q=>by subst q;exact e (r.z h2).symm
     obtain⟨q,q1,q2,q3⟩:=g.P.par b (r.lt b h2) h0;have hq:=r.pr b h2 e q q1 q2;have i1:=ih q (by omega) hq;by_cases e1:J b=J q
     . rw[e1];exact i1
     . by_cases e2:J b=h
       . exact absurd (r.jo b h2 e2) e
       . have i2:=ht.ed q b hq q2 h2 e1 e2
         have:=hC (J b);omega
structure NK(E:Nat->List Nat)(n:Nat)(D L:Nat->Nat->Bool)(Dn:Nat->Prop)(h:Nat):Prop where
 lt:h<n
 il:∀h y,L h y=true↔Ar E D n h y
 s1:∀x,An E D n x≠[]->((List.range n).filter (L x)).length<((List.range n).filter (L h)).length->Dn x
 s2:∀k,Dn k->k≠h/\((List.range n).filter (L k)).length<=((List.range n).filter (L h)).length
theorem NK.less{L:Nat->Nat->Bool}(g:EF E n pl D)(hL:∀h y,L h y=true↔Ar E D n h y)(ha:a<n)(h1:∀y,Ar E D n b y->Ar E D n a y)(h2:¬Ar E D n b a):((List.range n).filter (L b)).length<((List.range n).filter (L a)).length:=
 GU _ _ n a (fun k _ hk=>(hL _ _).2 (h1 k ((hL _ _).1 hk))) ha (by rw[<-Bool.not_eq_true,hL];exact h2) ((hL _ _).2 (.inl rfl))
theorem NK.within{L:Nat->Nat->Bool}(g:EF E n pl D)(s:Hf E n D Dn J)(q:NK E n D L Dn h)(hk:Dn k)(h1:Ar E D n h b)(h2:Ar E D n k b):(∀y,Ar E D n k y->Ar E D n h y)/\¬Ar E D n k h:=by
 rcases g.nest2 q.lt (s.dl k hk) h1 h2 (Ne.symm (q.s2 k hk).1)with i|⟨i1,i2⟩
 . exact i
 . have:=NK.less g q.il (s.dl k hk) i1 i2
   have:=(q.s2 k hk).2;omega
theorem NK.rgn{L:Nat->Nat->Bool}(g:EF E n pl D)(s:Hf E n D Dn J)(q:NK E n D L Dn h):NN E n D Dn J (Ar E D n h) h where
 lt b hb:=g.in_lt q.lt hb
 hd:=.inl rfl
 pr b hb hn p hp he:=EF.pred hb hn hp he
 dn x hx hn hh:=by
  rcases g.nest2 q.lt (g.in_lt q.lt hx) hx (.inl rfl) (Ne.symm hn)with⟨i1,i2⟩|⟨i1,i2⟩
  . exact q.s1 x hh (NK.less g q.il q.lt i1 i2)
  . exact absurd hx i2
 jh:=by
  rcases s.st h q.lt with⟨i,_⟩|⟨i1,i2,_⟩
  . exact i
  . exact absurd i2 (q.within g s i1 (.inl rfl) i2).2
 jo b hb e:=by
  rcases s.st b (g.in_lt q.lt hb)with⟨i,_⟩|⟨i1,_,_⟩
  . rw[<-i,e]
  . rw[e]at i1
    exact absurd rfl (q.s2 h i1).1
 z h0:=(g.in_dom h0).of_zero
theorem NK.step{L:Nat->Nat->Bool}(g:EF E n pl D)(s:Hf E n D Dn J)(q:NK E n D L Dn h):Hf E n D (fun k=>Dn k\/k=h) (fun b=>if L h b then h else J b) where
 st b hb:=by
  by_cases e:L h b=true
  . simp only[e,if_true]
    refine .inr ⟨by simp,(q.il _ _).1 e,fun k hk hkb=> ?_⟩;rcases hk with hk|rfl
    . exact(q.within g s hk ((q.il _ _).1 e) hkb).1
    . exact fun _ h=>h
  . simp only[bF e]
    have hn:¬Ar E D n h b:=fun i=>e ((q.il _ _).2 i)
    rcases s.st b hb with⟨i1,i2⟩|⟨i1,i2,i3⟩
    . exact .inl ⟨i1,fun k hk=>hk.elim (i2 k) (fun e=>e▸hn)⟩
    . exact .inr ⟨.inl i1,i2,fun k hk hkb=>hk.elim (fun hk=>i3 k hk hkb) (fun e=>absurd (e▸hkb) hn)⟩
 dl k hk:=hk.elim (s.dl k) (fun e=>e▸q.lt)
theorem Hf.start:Hf E n D (fun _=>False) (fun b=>b):=⟨fun b _=>.inl ⟨rfl,fun _ h=>h.elim⟩,fun _ h=>h.elim⟩
theorem Hf.whole(g:EF E n pl D)(s:Hf E n D Dn J)(ha:∀x,An E D n x≠[]->Dn x)(h0:¬Dn 0):NN E n D Dn J (fun b=>b<n) 0 where
 lt b hb:=hb
 hd:=g.P.pos
 pr b hb hn p hp he:=hp
 dn x hx hn hh:=ha x hh
 jh :=by
  rcases s.st 0 g.P.pos with⟨i,_⟩|⟨i1,i2,_⟩
  . exact i
  . have:=(g.in_dom i2).of_zero
    rw[this]at i1;exact absurd i1 h0
 jo b hb e:=by
  rcases s.st b hb with⟨i,_⟩|⟨i1,_,_⟩
  . rw[<-i,e]
  . rw[e]at i1
    exact absurd i1 h0
 z _:=rfl
end
structure EE(E:Nat->List Nat)(ok:Nat->Prop)(f n:Nat)(L:List Nat):Prop where
 nodup:L.Nodup
 lt:∀x∈L,x<n
 reach:∀x∈L,CJ E ok f x
 start:f∈L
theorem EE.len{E:Nat->List Nat}{ok:Nat->Prop}{f n:Nat}{L:List Nat}(h:EE E ok f n L):L.length<=n:=by
 have:=Eb L n h.lt h.nodup;omega
theorem EE.add{E:Nat->List Nat}{ok:Nat->Prop}{f n:Nat}{L:List Nat}(h:EE E ok f n L){b y:Nat}(hb:b∈L)(hy:y∈E b)(ho:ok y)(hn:y<n)(hL:y∉L):EE E ok f n (L++[y]):=by
 refine⟨dX.2 ⟨h.nodup,by simp,fun a ha c hc e=> ?_⟩,fun x hx=> ?_,fun x hx=> ?_,aU.2 (.inl h.start)⟩
 . simp only[aa,ao,cH]at hc
   subst hc e;exact hL ha
 . rcases aU.1 hx with hx|hx
   . exact h.lt x hx
   . simp only[aa,ao,cH]at hx
     subst hx;exact hn
 . rcases aU.1 hx with hx|hx
   . exact h.reach x hx
   . simp only[aa,ao,cH]at hx
     subst hx;exact .step (h.reach b hb) hy ho
def Cn(E:Nat->List Nat)(ok:Nat->Prop)(L:List Nat)(i:Nat):Prop:=∀j x,L[j]?=some x->j<i->∀y∈E x,ok y->y∈L
def DG(E:Nat->List Nat)(ok:Nat->Prop)(L:List Nat)(b k:Nat):Prop:=∀y∈(E b).take k,ok y->y∈L
theorem Cn.app{E:Nat->List Nat}{ok:Nat->Prop}{L:List Nat}{i:Nat}(h:Cn E ok L i)(hi:i<=L.length)(y:Nat):Cn E ok (L++[y]) i:=fun j x hj hl z hz ho=>by
 rw[bG (by omega)]at hj;exact aU.2 (.inl (h j x hj hl z hz ho))
theorem DG.next{E:Nat->List Nat}{ok:Nat->Prop}{L L':List Nat}{b k y:Nat}(h:DG E ok L b k)(hs:∀x∈L,x∈L')(hy:(E b)[k]?=some y)(hL:ok y->y∈L'):DG E ok L' b (k+1):=fun z hz ho=>by
 obtain⟨hlt,rfl⟩:=aD.1 hy;rw[ah hlt]at hz;rcases aU.1 hz with hz|hz
 . exact hs z (h z hz ho)
 . simp only[aa,ao,cH]at hz
   subst hz;exact hL ho
theorem Cn.next{E:Nat->List Nat}{ok:Nat->Prop}{L:List Nat}{i b:Nat}(h:Cn E ok L i)(hb:L[i]?=some b)(ht:DG E ok L b (E b).length):Cn E ok L (i+1):=fun j x hj hl y hy ho=>by
 by_cases e:j=i
 . subst e
   rw[hb]at hj;cases hj
   exact ht y (by rw[an lR];exact hy) ho
 . exact h j x hj (by omega) y hy ho
theorem EE.iff{E:Nat->List Nat}{ok:Nat->Prop}{f n:Nat}{L:List Nat}(h:EE E ok f n L)(hc:Cn E ok L L.length)(x:Nat):x∈L↔CJ E ok f x:=by
 refine⟨h.reach x,fun hr=> ?_⟩;induction hr with
 |here _=>exact h.start
 | step _ h2 h3 ih=>
   obtain⟨j,hj⟩:=bH ih;exact hc j _ hj (aD.1 hj).1 _ h2 h3
structure SN(w u:World)(n gs:Nat)(V:Value)(P:Nat->Bool)(L:List Nat):Prop where
 seen:Eg u w.heap.size gs n P
 list:DQ u w.heap.size V L
 bel:Below w.heap.size w u
theorem SN.mark{w u:World}{n gs:Nat}{V:Value}{P Q:Nat->Bool}{L:List Nat}(h:SN w u n gs V P L)(i:Nat)(b:Bool)(hQ:∀j,j<n->Q j=if j=i then b else P j):SN w (u.setCell ⟨gs,i,none⟩ (.bool b)) n gs V Q L:=⟨h.seen.set i b hQ,Bb h.list h.seen (by decide) i _,h.bel.setCell (Am h.seen).1 _⟩
theorem SN.al{w u:World}{n gs:Nat}{V:Value}{P:Nat->Bool}{L:List Nat}(h:SN w u n gs V P L)(o:Obj):(u.alloc o).ownsRow w.heap.size 2 1 V L.length (nv L)/\w.heap.size<=(u.alloc o).heap.size:=⟨h.list.keep (Aa _ _),aY h.bel.size (Aa _ _).size⟩
theorem SN.app{w u u':World}{n gs:Nat}{V V':Value}{P:Nat->Bool}{L:List Nat}{y:Nat}(h:SN w u n gs V P L)(hown:u'.ownsRow w.heap.size 2 1 V' (L.length+1) (nv L++[.int .i64 (y:Int)]))(hg:(u.alloc (.cells #[.int .i64 (y:Int)] 2)).grownBy u' V.ownBlock):SN w u' n gs V' P (L++[y]):=by
 have bA:=Aa u (.cells #[.int .i64 (y:Int)] 2);have o1:=h.list.keep bA;refine⟨Bg (h.seen.keep bA) hg o1 (by decide),?_,(Ab h.bel lR bA).grown hg (aY h.bel.size bA.size) (fun i hi=>(h.list.lt i hi).1)⟩;unfold DQ;rw[aH,aI,DC];exact hown
theorem SN.keep{w u u':World}{n gs:Nat}{V:Value}{P:Nat->Bool}{L:List Nat}(h:SN w u n gs V P L)(hb:Below u.heap.size u u'):SN w u' n gs V P L:=⟨h.seen.keep hb,h.list.keep hb,Ab h.bel lR hb⟩
theorem OR(L:List Nat)(y:Nat)(n:Nat):∀j,j<n->(L++[y]).contains j=if j=y then true else L.contains j:=fun j _=>by
 by_cases e:j=y
 . subst e;simp
 . simp[e]
theorem MK (g o c n f:Nat)(z:Int)(E:Nat->List Nat)(w:World)(hn:n<=1048576)(hE:∀b,b<n->∀x∈E b,x<n)(hsz:∀b,(E b).length<=2)(hf:f<n)(h:D6 w g o n E):
 Calls Tryz.prog 75 #[.slice (some ⟨g,o,none⟩) n c,.int .i64 (f:Int),.int .i64 z] w fun e w'=>∃gs P,e=.returned (.slice (some ⟨gs,0,none⟩) n n)/\Eg w' w.heap.size gs n P/\(∀x,x<n->(P x=true↔CJ E (fun y=>(y:Int)≠z) f x))/\Below w.heap.size w w':=by
 obtain⟨j0,hj,hy0,hy1,hy2⟩:=bQ Dy;obtain⟨k0,hk,hx0,hx1,hx2⟩:=bQ BE;have H:Hid (D6 w g o n E/\(∀b,b<n->∀x∈E b,x<n)/\(∀b,(E b).length<=2)):=⟨h,hE,hsz⟩
 clear h hE hsz;go_enter Tryz.func75,Tryz.ntmps75;by_cases q:(f:Int)=z
 . subst q
   go_wp2_with (at_make;refine bZ _ rfl _ _ 74 rfl w.heap.size 4 j0 (.bool false) 1 Tryz.underlying74 hj hy0 hy1 .i64 .i64 _ _ n rfl rfl rfl rfl (by rw[hy2];omega) (by unfold maxLen;omega) lR ?_;intro w3 hown hgrow;rw[CQ,Fc]at hown)
   go_ret
   refine⟨_,_,rfl,hown,fun x hx=>⟨fun q=>by simp at q,fun q=>absurd rfl q.ok0⟩,(aX _ _).grown hgrow lR (fun k hk=>by cases hk)⟩
 . have q' : ((f:Int)==z)=false:=by simpa using q
   have hfz:(f:Int)<(n:Int):=by omega
   go_wp2_with (at_make;refine bZ _ rfl _ _ 74 rfl w.heap.size 4 j0 (.bool false) 1 Tryz.underlying74 hj hy0 hy1 .i64 .i64 _ _ n rfl rfl rfl rfl (by rw[hy2];omega) (by unfold maxLen;omega) lR ?_;intro w3 hown hgrow;rw[CQ,Fc]at hown;have z0:=eH hown f;have d0:w3.cell? ⟨w.heap.size,f,none⟩=some (.bool false):=Eg.cell hown (by omega))
   have HS:Hid (SN w ((w3.setCell ⟨w.heap.size,f,none⟩ (.bool true)).alloc (.cells #[.int .i64 (f:Int)] 2)) n w.heap.size (.slice (some ⟨w3.heap.size,0,none⟩) 1 1) (fun x=>[f].contains x) [f]):=by
    have hb3:Below w.heap.size w w3:=(aX _ _).grown hgrow lR (fun k hk=>by cases hk)
    have k1:Eg (w3.setCell ⟨w.heap.size,f,none⟩ (.bool true)) w.heap.size w.heap.size n (fun x=>[f].contains x):=Eg.set (P:=fun _=>false) hown f true fun j hj=>by
     by_cases e:j=f
     . subst e;simp
     . simp[e]
    have b1:Below w.heap.size w (w3.setCell ⟨w.heap.size,f,none⟩ (.bool true)):=hb3.setCell lR _;have hz4:(w3.setCell ⟨w.heap.size,f,none⟩ (.bool true)).heap.size=w3.heap.size:=cM ..;rw[<-hz4];generalize w3.setCell ⟨w.heap.size,f,none⟩ (.bool true)=W4 at k1 b1⊢;exact⟨k1.keep (Aa _ _),AF (cX W4 #[.int .i64 (f:Int)] 1 lR (by unfold maxLen;omega) (by simp)) b1.size,Ab b1 lR (Aa _ _)⟩
   clear hown hgrow z0 d0;have HB0:Hid (EE E (fun y=>(y:Int)≠z) f n [f]):=⟨by simp,fun x hx=>by simp at hx;omega,fun x hx=>by simp at hx;subst hx;exact .here q,by simp⟩;go_loopw [8,9] (fun V i wr=>∃(L:List Nat) (k gl cl:Nat),V=.slice (some ⟨gl,0,none⟩) L.length cl/\i=.int .i64 k/\k<=L.length/\L.length<=n/\Hid (SN w wr n w.heap.size V (fun x=>L.contains x) L/\EE E (fun y=>(y:Int)≠z) f n L/\Cn E (fun y=>(y:Int)≠z) L k)) (fun _ i _=>n-(intOf i).toNat)
   case atStart=>exact⟨[f],0,_,_,rfl,rfl,by simp,HB0.o.len,HS.o,HB0.o,fun j x hj hl=>by omega⟩
   case round=>
    clear HS HB0;obtain⟨L,k,gl,cl,rfl,rfl,hkL,hLn,HL⟩:=hrel;by_cases hlt:k<L.length
    . have hltI:(k:Int)<(L.length:Int):=by omega
      obtain⟨b,hb⟩:∃b,L[k]?=some b:=⟨_,aA hlt⟩;have hbn:b<n:=HL.o.2.1.lt b (aE hb);have hbnI:(b:Int)<(n:Int):=by omega
      have HBB:Hid (L[k]?=some b):=hb;obtain⟨_,_,ee,_,l0⟩:=HL.o.1.list.rd.at_ hb;simp only[aR,cR,cw]at ee;obtain⟨rfl,rfl⟩:=ee;rw[bt]at l0;obtain⟨a,ca,g0,g1⟩:=H.o.1 b hbn;have HR:Hid (DR w (.slice a (E b).length ca) (E b)):=g1;replace g0:=Ad HL.o.1.bel g0
      have hE2:=H.o.2.2 b;clear g1 hb;go_wp2
      go_loopw [8,11] (fun V i wr=>∃(L:List Nat) (m gl cl:Nat),V=.slice (some ⟨gl,0,none⟩) L.length cl/\i=.int .i64 m/\m<=(E b).length/\k<L.length/\L.length<=n/\Hid (SN w wr n w.heap.size V (fun x=>L.contains x) L/\EE E (fun y=>(y:Int)≠z) f n L/\Cn E (fun y=>(y:Int)≠z) L k/\L[k]?=some b/\DG E (fun y=>(y:Int)≠z) L b m)) (fun _ i _=>2-(intOf i).toNat)
      case atStart=>exact⟨L,0,gl,cl,rfl,rfl,by omega,hlt,hLn,HL.o.1,HL.o.2.1,HL.o.2.2,HBB.o,fun y hy=>by simp at hy⟩
      case round=>
       clear l0 g0 HL HBB hlt hltI hkL hLn;obtain⟨L,m,gl,cl,rfl,rfl,hm,hkl,hLn,HL⟩:=hrel;by_cases hlt:m<(E b).length
       . have hltI:(m:Int)<((E b).length:Int):=by omega
         obtain⟨y,hy⟩:∃y,(E b)[m]?=some y:=⟨_,aA hlt⟩;have hyn:y<n:=H.o.2.1 b hbn y (aE hy);have hynI:(y:Int)<(n:Int):=by omega
         have HY:Hid ((E b)[m]?=some y):=hy;obtain⟨ga,oa,rfl,_,y0⟩:=HR.o.at_ hy;have HY0:Hid (w.cell? ⟨ga,oa+m,none⟩=some (.int .i64 (y:Int))):=y0;replace y0:=Ad HL.o.1.bel y0
         have s0:=HL.o.1.seen.cell hyn;clear hy;by_cases qz:(y:Int)=z
         . subst qz
           have HN:Hid (DG E (fun x=>(x:Int)≠(y:Int)) L b (m+1)):=HL.o.2.2.2.2.next (fun x hx=>hx) HY.o (fun q=>absurd rfl q);go_wp2
           go_roundw
           case rel=>exact⟨L,m+1,gl,cl,rfl,by go_num,by omega,hkl,hLn,HL.o.1,HL.o.2.1,HL.o.2.2.1,HL.o.2.2.2.1,HN.o⟩
           case measure=>simp[intOf];omega
         . have qz':((y:Int)==z)=false:=by simpa using qz
           have qz2:((y:Int) != z)=true:=by simpa using qz
           cases hc:L.contains y
           . simp only[hc]at s0
             have z0:=HL.o.1.seen.frozen y;have hyL:y∉L:=by simpa using hc
             have HSM:Hid (SN w (wr.setCell ⟨w.heap.size,y,none⟩ (.bool true)) n w.heap.size (.slice (some ⟨gl,0,none⟩) L.length cl) (fun x=>(L++[y]).contains x) L):=HL.o.1.mark y true (OR L y n);have HBN:Hid (EE E (fun y=>(y:Int)≠z) f n (L++[y])):=HL.o.2.1.add (aE HL.o.2.2.2.1) (aE HY.o) qz hyn hyL;have hLn2:=HBN.o.len;rw[aH,aI]at hLn2;have HN:Hid (DG E (fun x=>(x:Int)≠z) (L++[y]) b (m+1)):=HL.o.2.2.2.2.next (fun x hx=>aU.2 (.inl hx)) HY.o (fun _=>by simp);go_upto_region 15 with fail
             refine Al (fun u=>Hid (SN w u n w.heap.size (.slice (some ⟨gl,0,none⟩) L.length cl) (fun x=>(L++[y]).contains x) L)) HSM ?_;intro U HU;clear HSM s0 z0 y0;have y1:=Ad HU.o.bel HY0.o;go_wp2_with (at_builtin;refine wpList_append_lies _ rfl _ _ 28 rfl w.heap.size 2 k0 (.int .i64 0) 1 8 Tryz.underlying28 hk hx0 hx1 hx2 rfl (by decide) _ L.length (nv L) rfl (HU.o.al (.cells #[.int .i64 (y:Int)] 2)).1 ⟨U.heap.size,0,none⟩ 1 1 [.int .i64 (y:Int)] rfl rfl (A5 U (y:Int)) (fun u hu=>by simp at hu;subst hu;rfl) (by omega) (by simp[maxLen];omega) (by omega) (HU.o.al (.cells #[.int .i64 (y:Int)] 2)).2 _ rfl ?_;intro g5 cap5 w5 hown hgrow hat hlt3;have HU5:Hid (SN w w5 n w.heap.size (.slice (some ⟨g5,0,none⟩) (L.length+1) cap5) (fun x=>(L++[y]).contains x) (L++[y])):=HU.o.app hown hgrow;clear hown hgrow hat hlt3);go_roundw
             case rel=>exact⟨L++[y],m+1,g5,cap5,by rw[aH,aI],by go_num,by omega,by rw[aH];omega,by rw[aH,aI];exact hLn2,HU5.o,HBN.o,HL.o.2.2.1.app (by omega) y,by rw[bG hkl];exact HL.o.2.2.2.1,HN.o⟩
             case measure=>simp[intOf];omega
           . simp only[hc]at s0
             have HN:Hid (DG E (fun x=>(x:Int)≠z) L b (m+1)):=HL.o.2.2.2.2.next (fun x hx=>hx) HY.o (fun q=>by simpa using hc);go_wp2
             go_roundw
             case rel=>exact⟨L,m+1,gl,cl,rfl,by go_num,by omega,hkl,hLn,HL.o.1,HL.o.2.1,HL.o.2.2.1,HL.o.2.2.2.1,HN.o⟩
             case measure=>simp[intOf];omega
       . obtain rfl:m=(E b).length:=by omega
         have HN:Hid (Cn E (fun y=>(y:Int)≠z) L (k+1)):=HL.o.2.2.1.next HL.o.2.2.2.1 HL.o.2.2.2.2;go_wp2
         go_roundw
         case rel=>exact⟨L,k+1,gl,cl,rfl,by go_num,by omega,hLn,HL.o.1,HL.o.2.1,HN.o⟩
         case measure=>simp[intOf];omega
    . obtain rfl:k=L.length:=by omega
      have HE:Hid (∀x,x<n->(L.contains x=true↔CJ E (fun y=>(y:Int)≠z) f x)):=fun x hx=>by
       rw[<-HL.o.2.1.iff HL.o.2.2 x];simp
      go_wp2
      go_ret
      exact⟨_,_,rfl,HL.o.1.seen,HE.o,HL.o.1.bel⟩
structure GI(w:World)(G n gp cp gi ci:Nat)(pl:Nat->Nat)(I:Nat->Int):Prop where
 p:w.cell? ⟨G,3,none⟩=some (.slice (some ⟨gp,0,none⟩) n cp)
 i:w.cell? ⟨G,4,none⟩=some (.slice (some ⟨gi,0,none⟩) n ci)
 pc:∀x,x<n->w.cell? ⟨gp,x,none⟩=some (.int .i64 (pl x:Int))
 ic:∀x,x<n->w.cell? ⟨gi,x,none⟩=some (.int .i64 (I x))
theorem GI.keep{w w':World}{G n gp cp gi ci:Nat}{pl:Nat->Nat}{I:Nat->Int}(h:GI w G n gp cp gi ci pl I)(hb:Below w.heap.size w w'):GI w' G n gp cp gi ci pl I:=⟨Ad hb h.p,Ad hb h.i,fun x hx=>Ad hb (h.pc x hx),fun x hx=>Ad hb (h.ic x hx)⟩
theorem Lq(G n gp cp gi ci a b:Nat)(pl:Nat->Nat)(I:Nat->Int)(w:World)(hn:n<=1024)(ht:J4 n pl I)(hz:pl 0=0)(hinj:∀a b,a<n->b<n->pl a=pl b->a=b)(ha:a<n)(hb:b<n)(ka:Kn I a)(kb:Kn I b)(h:GI w G n gp cp gi ci pl I):
 Calls Tryz.prog 121 #[.pointer (some ⟨G,0,none⟩),.int .i64 (a:Int),.int .i64 (b:Int)] w fun e w'=>∃m:Nat,e=.returned (.int .i64 (m:Int))/\m<n/\Kn I m/\BD I a b m/\Below w.heap.size w w':=by
 have H:Hid (GI w G n gp cp gi ci pl I/\J4 n pl I/\pl 0=0/\(∀a b,a<n->b<n->pl a=pl b->a=b)):=⟨h,ht,hz,hinj⟩
 have K0:Hid (Kn I a/\Kn I b):=⟨ka,kb⟩
 clear h ht hz hinj ka kb;go_enter Tryz.func121,Tryz.ntmps121;go_wp2
 go_loopw [1,2] (fun v u wr=>∃x y:Nat,x<n/\y<n/\v=.int .i64 (x:Int)/\u=.int .i64 (y:Int)/\Hid (Kn I x/\Kn I y/\(∀m,BD I x y m->BD I a b m)/\Below w.heap.size w wr)) (fun v u _=>pl (intOf v).toNat+pl (intOf u).toNat)
 case atStart=>exact⟨a,b,ha,hb,rfl,rfl,K0.o.1,K0.o.2,fun m h=>h,aX _ _⟩
 case round=>
  obtain⟨x,y,hx,hy,rfl,rfl,HL⟩:=hrel;by_cases e:x=y
  . subst e
    go_wp2
    go_ret
    exact⟨x,rfl,hx,HL.o.1,HL.o.2.2.1 x (BD.same I x),HL.o.2.2.2⟩
  . have eI:¬(x:Int)=(y:Int):=by omega
    have eB:((x:Int)==(y:Int))=false:=by simpa using eI
    have eN:((x:Int) != (y:Int))=true:=by simpa using eI
    have hg:=H.o.1.keep HL.o.2.2.2;have p0:=hg.p;have i0:=hg.i;have px:=hg.pc x hx;have py:=hg.pc y hy;have ix:=hg.ic x hx;have iy:=hg.ic y hy;clear hg;have hxI:(x:Int)<(n:Int):=by omega
    have hyI:(y:Int)<(n:Int):=by omega
    by_cases hp:pl y<pl x
    . have hpI:(pl y:Int)<(pl x:Int):=by omega
      have hx0:x≠0:=fun q=>by have:=H.o.2.2.1;rw[q]at hp;omega
      obtain⟨c,c1,c2,c3,c4⟩:=H.o.2.1.up x hx hx0 (HL.o.1.resolve_left hx0);rw[c1]at ix;have HN:Hid (Kn I c/\Kn I y/\(∀m,BD I c y m->BD I a b m)/\Below w.heap.size w wr/\pl c<pl x):=⟨c4,HL.o.2.1,fun m hm=>HL.o.2.2.1 m (BD.left H.o.2.1 hy hp hx0 c1 hm),HL.o.2.2.2,c3⟩
      clear c1 c4;go_wp2
      go_quiet (fail)
      refine Av (fun u=>Hid (Below wr.heap.size wr u)) (Af _ _ _) ?_;intro U HU;replace p0:=Ad HU.o p0
      replace i0:=Ad HU.o i0
      replace ix:=Ad HU.o ix
      clear px py iy;go_wp2
      go_roundw
      case rel=>exact⟨c,y,c2,hy,rfl,rfl,HN.o.1,HN.o.2.1,HN.o.2.2.1,Ab HN.o.2.2.2.1 lR HU.o⟩
      case measure=>simp[intOf];have:=HN.o.2.2.2.2;omega
    . have hpI:¬(pl y:Int)<(pl x:Int):=by omega
      have hp2:pl x<pl y:=by
       have:=H.o.2.2.2 x y hx hy;omega
      have hy0:y≠0:=fun q=>by have:=H.o.2.2.1;rw[q]at hp2;omega
      obtain⟨c,c1,c2,c3,c4⟩:=H.o.2.1.up y hy hy0 (HL.o.2.1.resolve_left hy0);rw[c1]at iy;have HN:Hid (Kn I x/\Kn I c/\(∀m,BD I x c m->BD I a b m)/\Below w.heap.size w wr/\pl c<pl y):=⟨HL.o.1,c4,fun m hm=>HL.o.2.2.1 m (BD.symm (BD.left H.o.2.1 hx hp2 hy0 c1 hm.symm)),HL.o.2.2.2,c3⟩
      clear c1 c4;go_wp2
      go_quiet (fail)
      refine Av (fun u=>Hid (Below wr.heap.size wr u)) (Af _ _ _) ?_;intro U HU;replace p0:=Ad HU.o p0
      replace i0:=Ad HU.o i0
      replace iy:=Ad HU.o iy
      clear px py ix;go_wp2
      go_roundw
      case rel=>exact⟨x,c,hx,c2,rfl,rfl,HN.o.1,HN.o.2.1,HN.o.2.2.1,Ab HN.o.2.2.2.1 lR HU.o⟩
      case measure=>simp[intOf];have:=HN.o.2.2.2.2;omega
theorem AQ.skip{n:Nat}{I:Nat->Int}{ps:List Nat}{z:Int}{p:Nat}(h:AQ n I ps z)(hp:¬Kn I p):AQ n I (ps++[p]) z:=by
 have hm:∀q,q∈ps++[p]->q∈ps\/q=p:=fun q hq=>by simpa using hq
 rcases h with⟨h1,h2⟩|⟨m,h1,h2,h3,⟨q,h4,h4'⟩,h5⟩
 . exact .inl ⟨h1,fun q hq=>(hm q hq).elim (h2 q) (fun e=>by rw[e];exact hp)⟩
 . refine .inr ⟨m,h1,h2,h3,⟨q,aU.2 (.inl h4),h4'⟩,fun d=> ?_⟩
   rw[h5 d];exact⟨fun k q hq hk=>(hm q hq).elim (fun r=>k q r hk) (fun e=>absurd (e▸hk) hp),fun k q hq hk=>k q (aU.2 (.inl hq)) hk⟩
theorem AQ.first{n:Nat}{I:Nat->Int}{ps:List Nat}{p:Nat}(h:AQ n I ps (-1))(hp:Kn I p)(hn:p<n):AQ n I (ps++[p]) (p:Int):=by
 have hm:∀q,q∈ps++[p]->q∈ps\/q=p:=fun q hq=>by simpa using hq
 rcases h with⟨h1,h2⟩|⟨m,h1,_⟩
 . refine .inr ⟨p,rfl,hn,hp,⟨p,by simp,hp⟩,fun d=>⟨fun k q hq hk=>(hm q hq).elim (fun r=>absurd hk (h2 q r)) (fun e=>e▸k),fun k=>k p (by simp) hp⟩⟩
 . omega
theorem AQ.meet{n:Nat}{I:Nat->Int}{ps:List Nat}{p m m':Nat}(h:AQ n I ps (m:Int))(hp:Kn I p)(hm':m'<n)(hk':Kn I m')(hM:BD I m p m'):AQ n I (ps++[p]) (m':Int):=by
 have hm:∀q,q∈ps++[p]->q∈ps\/q=p:=fun q hq=>by simpa using hq
 rcases h with⟨h1,_⟩|⟨m0,h1,h2,h3,⟨q,h4,h4'⟩,h5⟩
 . omega
 . obtain rfl:m=m0:=by omega
   refine .inr ⟨m',rfl,hm',hk',⟨q,aU.2 (.inl h4),h4'⟩,fun d=> ?_⟩;rw[hM d,h5 d];exact⟨fun k q hq hk=>(hm q hq).elim (fun r=>k.1 q r hk) (fun e=>e▸k.2),fun k=>⟨fun q hq hk=>k q (aU.2 (.inl hq)) hk,k p (by simp) hp⟩⟩
theorem AQ.some{n:Nat}{I:Nat->Int}{ps:List Nat}{z:Int}(h:AQ n I ps z)(hz:z≠ -1):∃m:Nat,z=(m:Int)/\m<n/\Kn I m:=by
 rcases h with⟨h1,_⟩|⟨m,h1,h2,h3,_⟩
 . exact absurd h1 hz
 . exact⟨m,h1,h2,h3⟩
theorem J8(G n gp cp gi ci:Nat)(pl:Nat->Nat)(I:Nat->Int)(s:Value)(ps:List Nat)(w:World)(hn:n<=1024)(ht:J4 n pl I)(hz:pl 0=0)(hinj:∀a b,a<n->b<n->pl a=pl b->a=b)(hps:∀p∈ps,p<n)(hpl:ps.length<=4096)(hs:DR w s ps)(h:GI w G n gp cp gi ci pl I):
 Calls Tryz.prog 120 #[.pointer (some ⟨G,0,none⟩),s] w fun e w'=>∃z,e=.returned (.int .i64 z)/\AQ n I ps z/\Below w.heap.size w w':=by
 have H:Hid (GI w G n gp cp gi ci pl I/\DR w s ps/\(∀p∈ps,p<n)):=⟨h,hs,hps⟩
 obtain⟨a1,c1,rfl⟩:=Rd.is_slice hs;have HT:Hid (∀(a b:Nat) (U:World),a<n->b<n->Kn I a->Kn I b->GI U G n gp cp gi ci pl I->Calls Tryz.prog 121 #[.pointer (some ⟨G,0,none⟩),.int .i64 (a:Int),.int .i64 (b:Int)] U fun e w'=>∃m:Nat,e=.returned (.int .i64 (m:Int))/\m<n/\Kn I m/\BD I a b m/\Below U.heap.size U w'):=fun a b U ha hb ka kb hU=>Lq G n gp cp gi ci a b pl I U hn ht hz hinj ha hb ka kb hU
 clear h hs hps ht hz hinj;go_enter Tryz.func120,Tryz.ntmps120;go_wp2
 go_loopw [5,11] (fun v i wr=>∃(k:Nat) (z:Int),k<=ps.length/\v=.int .i64 z/\i=.int .i64 k/\Hid (AQ n I (ps.take k) z/\Below w.heap.size w wr)) (fun _ i _=>ps.length-(intOf i).toNat)
 case atStart=>exact⟨0,-1,by omega,rfl,rfl,.inl ⟨rfl,fun p hp=>by simp at hp⟩,aX _ _⟩
 case round=>
  obtain⟨k,z,hk,rfl,rfl,HL⟩:=hrel;by_cases hlt:k<ps.length
  . have hltI:(k:Int)<(ps.length:Int):=by omega
    obtain⟨p,hp⟩:∃p,ps[k]?=some p:=⟨_,aA hlt⟩;have hpn:p<n:=H.o.2.2 p (aE hp);have hpnI:(p:Int)<(n:Int):=by omega
    have HTK:Hid (ps.take (k+1)=ps.take k++[p]):=by
     obtain⟨hl,rfl⟩:=aD.1 hp;exact ah hl
    obtain⟨ga,oa,rfl,_,y0⟩:=H.o.2.1.at_ hp;replace y0:=Ad HL.o.2 y0
    have hg:=H.o.1.keep HL.o.2;have i0:=hg.i;have ip:=hg.ic p hpn;clear hp hg;by_cases hkn:Kn I p
    . have HKB:Hid (Kn I p):=hkn
      go_upto_region 5 with fail
      go_cut [8]from 15 to 26 (fun c wx=>c=.bool true/\wx=wr)
      case first=>
       by_cases hp0:p=0
       . subst hp0
         go_wp2
         go_meet
         case rel=>exact⟨rfl,rfl⟩
       . have hp0B:((p:Int)==0)=false:=by simp;omega
         have hpi:=HKB.o.resolve_left hp0;have hpiB:(I p== -1)=false:=by simpa using hpi
         have hpiN:(I p != -1)=true:=by simpa using hpi
         go_wp2
         go_meet
         case rel=>exact⟨rfl,rfl⟩
      case rest=>
       obtain⟨rfl,hwc⟩:=hcut;rw[hwc];clear hwc y0 i0 ip;by_cases hz1:z=-1
       . subst hz1
         have HN:Hid (AQ n I (ps.take (k+1)) (p:Int)):=by
          show AQ _ _ _ _;rw[HTK.o];exact HL.o.1.first HKB.o hpn
         go_wp2
         go_roundw
         case rel=>exact⟨k+1,_,by omega,rfl,by go_num,HN.o,HL.o.2⟩
         case measure=>simp[intOf];omega
       . have hzB:(z== -1)=false:=by simpa using hz1
         obtain⟨m,rfl,hm,hkm⟩:=HL.o.1.some hz1;go_wp2_with fail
         refine(HT.o m p wr hm hpn hkm HKB.o (H.o.1.keep HL.o.2)).mono ?_;rintro e u1 ⟨m',rfl,h1,h2,h3,b1⟩
         have HN:Hid (AQ n I (ps.take (k+1)) (m':Int)/\Below w.heap.size w u1):=by
          refine⟨?_,Ab HL.o.2 lR b1⟩;rw[HTK.o];exact HL.o.1.meet HKB.o h1 h2 h3
         clear h2 h3 b1;go_wp2
         go_roundw
         case rel=>exact⟨k+1,_,by omega,rfl,by go_num,HN.o⟩
         case measure=>simp[intOf];omega
    . have hp0:¬p=0:=fun q=>hkn (.inl q)
      have hpi:I p=-1:=cQ fun q=>hkn (.inr q)
      have hp0B:((p:Int)==0)=false:=by simp;omega
      rw[hpi]at ip
      have HN:Hid (AQ n I (ps.take (k+1)) z):=by
       show AQ _ _ _ _;rw[HTK.o];exact HL.o.1.skip hkn
      go_wp2
      go_roundw
      case rel=>exact⟨k+1,z,by omega,by trivial,by go_num,HN.o,HL.o.2⟩
      case measure=>simp[intOf];omega
  . obtain rfl:k=ps.length:=by omega
    have HN:Hid (AQ n I ps z):=by
     have:=HL.o.1;rw[an lR]at this;exact this
    go_wp2
    go_ret
    exact⟨z,rfl,HN.o,HL.o.2⟩
theorem P9(x y:Nat)(hx:x<18446744073709551616)(hy:y<18446744073709551616)(w:World):
 Calls Tryz.prog 147 #[.int .u64 x,.int .u64 y] w fun e w'=>e=.returned (.tuple #[.int .u64 ((x*y / 18446744073709551616:Nat):Int),.int .u64 ((x*y % 18446744073709551616:Nat):Int)])/\w'=w:=by
 have h:=Any.bits_Mul Tryz.lMul x y hx hy w;exact h
theorem LF(g cap:Nat)(zs:List Int)(w:World)(hH:Go.Sort.Holds (Value.int .i64) w g 0 zs.toArray)(hsz:zs.length<=9223372036854775807):
 Calls Tryz.prog 117 #[.slice (some ⟨g,0,none⟩) zs.length cap] w fun e w'=>e=.returned (.tuple #[])/\∃n,w'=Go.Sort.putRow (Value.int .i64) (Go.Sort.ahead w n) g 0 zs.reverse.toArray:=by
 have h:=AnyG.slices_Reverse_int Tryz.lReverse g 0 cap zs w hH hsz;exact h
def C6(k n:Nat):List Value:=List.replicate k (.int .i64 (-1))++List.replicate (n-k) (.int .i64 0)
theorem LD(k n:Nat)(h:k<=n):(C6 k n).length=n:=by simp[C6];omega
theorem LE(k c n:Nat)(h:k+c<=n):splice (C6 k n) k (List.replicate c (.int .i64 (-1)))=C6 (k+c) n:=by
 unfold splice C6;rw[List.take_left' (by simp),dF,List.drop_append,df (by simp),dY,dF,List.drop_replicate,<-dM,List.replicate_append_replicate];congr 2
 omega
theorem K3(W:World)(G k n dl dc sl sc c:Nat)(ad:Addr)(hg:Ak W G (C6 k n).toArray 2)(hc:c=Nat.min sl dl)(hsrc:∀j,j<c->W.cell? (ad.add j)=some (.int .i64 (-1)))(hkc:k+c<=n):
 (Builtin.copy_ #[28,28] 3 #[.slice (some ⟨G,k,none⟩) dl dc,.slice (some ad) sl sc]).run Tryz.prog W=.ok (.int .i64 (c:Int)) (W.setRow G (C6 (k+c) n).toArray):=by
 obtain⟨k0,hk,hx0,hx1,hx2⟩:=bQ BE
 have h:=run_copy_row (P:=Tryz.prog) W 28 28 3 2 G k dl dc ad sl sc (C6 k n).toArray 2 (List.replicate c (.int .i64 (-1))) Tryz.underlying28 (by rw[hk];simp[hx1]) hg (by rw[dF];exact hc) (fun j v hj=>by
  obtain⟨h1,h2⟩:=aD.1 hj;rw[dF]at h1;rw[hsrc j h1,<-h2];simp) (by rw[dF,List.size_toArray,LD k n (by omega)];exact hkc) (fun v hv=>by rw[(List.mem_replicate.1 hv).2];rfl)
 rw[h];have e:=LE k c n hkc;unfold splice at e;simp only[dF]at e⊢;rw[dM,e];rfl
theorem Q0(k n i:Nat)(h:i<k)(hk:k<=n):(C6 k n).toArray[i]?=some (.int .i64 (-1)):=by
 rw[am];unfold C6;rw[bG (by simpa using h)];simp[h]
theorem Pd{W:World}{B G n:Nat}(h:W.ownsRow B 2 1 (.slice (some ⟨G,0,none⟩) n n) n (madeCells (Value.int .i64 0).cells (n*1)).toList):Ak W G (C6 0 n).toArray 2:=by
 rcases h.2 with⟨h',_⟩|⟨g',cap',cur,h',hb,hg,h3,h4,h5,h6⟩
 . cases h'
 . cases h'
   have e:cur=(C6 0 n).toArray:=by
    rw[Gf n (fun _=>[]) []]at h6;rw[an (by simp[h5])]at h6;apply Array.toList_inj.1;rw[h6];simp[A7,C6,List.flatten_replicate_singleton]
   rw[<-e];exact hg
theorem IL{W:World}{G:Nat}{cur new:Array Value}{t:TypeId}(h:Ak W G cur t):Ak (W.setRow G new) G new t:=setRow_heap W G _ _ t _ h
theorem M4(g n:Nat)(w:World)(h1:1<=n)(hn:n<=1024)(h:w.cell? ⟨g,0,none⟩=some (.int .i64 (-1))):
 Calls Tryz.prog 119 #[.slice (some ⟨g,0,none⟩) 1 1,.int .i64 (n:Int)] w fun e w'=>∃g',e=.returned (.slice (some ⟨g',0,none⟩) n n)/\w'.ownsRow w.heap.size 2 1 (.slice (some ⟨g',0,none⟩) n n) n (List.replicate n (.int .i64 (-1)))/\Below w.heap.size w w':=by
 obtain⟨k0,hk,hx0,hx1,hx2⟩:=bQ BE;have hnI:¬(n:Int)<0:=by omega
 have hn2:(n:Int)<=1024:=by omega
 have hm1:1*n / 18446744073709551616=0:=by omega
 have hm2:1*n % 18446744073709551616=n:=by omega
 have HM:Hid (∀U:World,Calls Tryz.prog 147 #[.int .u64 1,.int .u64 (n:Int)] U fun e w'=>e=.returned (.tuple #[.int .u64 0,.int .u64 (n:Int)])/\w'=U):=fun U=>by
  have:=P9 1 n (by omega) (by omega) U;rw[hm1,hm2]at this;exact this
 clear hm1 hm2;go_enter Tryz.func119,Tryz.ntmps119;go_wp2_with fail
 refine(HM.o w).mono ?_;rintro e u ⟨rfl,rfl⟩;have hgt:g<u.heap.size:=aC h;have HOC:Hid (u.cell? ⟨g,0,none⟩=some (.int .i64 (-1))):=h;clear h;go_upto_region 7 with(at_make;refine bZ _ rfl _ _ 28 rfl u.heap.size 2 k0 (.int .i64 0) 1 Tryz.underlying28 hk hx0 hx1 .i64 .i64 _ _ n rfl rfl rfl rfl (by rw[hx2];omega) (by unfold maxLen;omega) lR ?_;intro w3 hown hgrow)
 have hb3:Below u.heap.size u w3:=(aX _ _).grown hgrow lR (fun k hk=>by cases hk);have k3:Ak w3 u.heap.size (C6 0 n).toArray 2:=Pd hown
 have hcp:=K3 w3 u.heap.size 0 n n n 1 1 1 ⟨g,0,none⟩ k3 (by simp[Nat.min_def];omega) (fun j hj=>by
  obtain rfl:j=0:=by omega
  rw[Ej];exact Ad hb3 HOC.o) (by omega)
 have HB4:Hid (Ak (w3.setRow u.heap.size (C6 (0+1) n).toArray) u.heap.size (C6 (0+1) n).toArray 2/\Below u.heap.size u (w3.setRow u.heap.size (C6 (0+1) n).toArray)):=⟨IL k3,below_setRow hb3 lR _⟩
 clear hown hgrow hb3 k3;rw[bt]at hcp HB4;obtain⟨W4,hW4⟩:∃W,W=w3.setRow u.heap.size (C6 1 n).toArray:=⟨_,rfl⟩;rw[<-hW4]at hcp HB4;clear hW4;obtain⟨G,hG⟩:∃G,G=u.heap.size:=⟨_,rfl⟩;rw[<-hG]at hcp HB4⊢;have HGG:Hid (G=u.heap.size):=hG;clear hG;go_wp2
 go_loopw [8] (fun i wr=>∃k:Nat,1<=k/\k<=n/\i=.int .i64 (k:Int)/\Hid (Ak wr G (C6 k n).toArray 2/\Below u.heap.size u wr)) (fun i _=>n-(intOf i).toNat)
 case atStart=>exact⟨1,by omega,h1,rfl,by rw[<-HGG.o];exact HB4⟩
 case round=>
  clear HB4 hcp;obtain⟨k,hk1,hkn,rfl,HL⟩:=hrel;by_cases hlt:k<n
  . have hltI:(k:Int)<(n:Int):=by omega
    have kD:=HL.o.1.keep (Ae wr);have bD:=Ab HL.o.2 lR (Ae wr);obtain⟨c,hc⟩:∃c,c=Nat.min k (n-k):=⟨_,rfl⟩
    have hcl:1<=c/\c<=k/\k+c<=n:=by
     have e:c=min k (n-k):=hc;omega
    have hcp:=K3 wr.drew G k n (n-k) (n-k) k n c ⟨G,0,none⟩ kD hc (fun j hj=>by
     rw[Ej,bt,kD.cell j];exact Q0 k n j (by omega) (by omega)) (by omega)
    have HN:Hid (Ak (wr.drew.setRow G (C6 (k+c) n).toArray) G (C6 (k+c) n).toArray 2/\Below u.heap.size u (wr.drew.setRow G (C6 (k+c) n).toArray)):=⟨IL kD,below_setRow bD (by rw[HGG.o];exact Nat.le_refl _) _⟩
    clear kD bD hc;go_wp2
    go_region
    refine Av (fun x=>Hid (Ak x G (C6 (k+c) n).toArray 2/\Below u.heap.size u x)) HN ?_
    intro U HU;clear HN hcp;go_wp2
    go_roundw
    case rel=>exact⟨k+c,by omega,by omega,by go_num,HU⟩
    case measure=>simp[intOf];omega
  . obtain rfl:k=n:=by omega
    have HE:Hid (wr.ownsRow u.heap.size 2 1 (.slice (some ⟨G,0,none⟩) k k) k (List.replicate k (.int .i64 (-1)))):=by
     refine⟨by simp,.inr ⟨G,k,(C6 k k).toArray,rfl,by rw[HGG.o];exact Nat.le_refl _,HL.o.1,Nat.le_refl _,by unfold maxLen;omega,by simp[C6],by simp[C6]⟩⟩
    go_wp2
    go_ret
    exact⟨G,rfl,HE.o,HL.o.2⟩
structure LV where
 h:Int
 xa:Option Addr
 xn:Nat
 xc:Nat
 ya:Option Addr
 yn:Nat
 yc:Nat
instance:Inhabited LV:=⟨⟨0,none,0,0,none,0,0⟩⟩
def LV.enc(x:LV):List Value:=[.int .i64 x.h,.slice x.xa x.xn x.xc,.slice x.ya x.yn x.yc]
def LV.cmp(x y:LV):Int:=if x.yn<y.yn then -1 else if y.yn<x.yn then 1 else if x.h<y.h then -1 else if y.h<x.h then 1 else 0
theorem LV.lt_iff(x y:LV):ltOf LV.cmp x y=decide (x.yn<y.yn\/x.yn=y.yn/\x.h<y.h):=by
 unfold ltOf LV.cmp;by_cases h1:x.yn<y.yn
 . simp[h1]
 . by_cases h2:y.yn<x.yn
   . have:¬(x.yn<y.yn\/x.yn=y.yn/\x.h<y.h):=by omega
     simp[h1,h2];omega
   . have e:x.yn=y.yn:=by omega
     by_cases h3:x.h<y.h
     . simp[e,h3]
     . by_cases h4:y.h<x.h<;>simp[e,h3,h4]
theorem LV.swo:Go.Sort.SWO (ltOf LV.cmp) where
 irrefl x:=by rw[LV.lt_iff];simp
 trans x y z h1 h2:=by rw[LV.lt_iff]at*;simp at*;omega
 ntrans x y z h1 h2:=by rw[LV.lt_iff]at*;simp at*;omega
def EG(xs:List MI):Prop:=∀(i:Nat) (x:MI),xs[i]?=some x->AB x=true->0<=x.c/\x.c<(xs.length:Int)
theorem DU(a:Option Addr)(c:Nat)(z:Int)(w:World):Calls Tryz.prog 124 #[.slice a 0 c,.int .i64 z] w fun e w'=>e=.returned (.bool false)/\w'=w:=by
 have h:=AnyG.slices_Contains_int_empty Tryz.lContains a c z w;exact h
theorem J9(g c:Nat)(y z:Int)(w:World)(hc:w.cell? ⟨g,0,none⟩=some (.int .i64 y)):Calls Tryz.prog 124 #[.slice (some ⟨g,0,none⟩) 1 c,.int .i64 z] w fun e w'=>e=.returned (.bool (decide (z=y)))/\w'=w:=by
 have h:=AnyG.slices_Contains_int Tryz.lContains g 0 1 c [y] z w (by simp) (by omega) (fun j hj=>by
  have:j=0:=by simpa using hj
  subst this;simpa using hc)
 have e:([y].take 1).contains z=decide (z=y):=by
  by_cases q:z=y
  . simp[q]
  . simp[q]
 rw[e]at h;exact h
theorem M6(g c:Nat)(zs:List Int)(z:Int)(w:World)(hn:zs.length<=1048576)(hs:zs.Pairwise (· < ·))(h:Rd w 1 (.slice (some ⟨g,0,none⟩) zs.length c) zs.length (zs.flatMap Ac))(hz:z∈zs):
 Calls Tryz.prog 115 #[.slice (some ⟨g,0,none⟩) zs.length c,.int .i64 z] w fun e w'=>(∃b,e=.returned (.tuple #[.int .i64 (zs.idxOf z:Nat),.bool b]))/\∃q,w'=w.drewN q:=by
 have hcell:∀j,j<zs.length->w.cell? ⟨g,0+j,none⟩=some (.int .i64 (zs.getD j 0)):=fun j hj=>by
  rcases h.2 with⟨e0,_⟩|⟨g',o',c',e1,hc⟩
  . omega
  . simp only[aF,aR,cR,cw,aw]at e1
    obtain⟨⟨rfl,rfl⟩,rfl⟩:=e1;have:=hc j (.int .i64 (zs.getD j 0)) (by rw[Cj];simp[List.getD_eq_getElem?_getD,List.getElem?_eq_getElem hj]);exact this
 have hc:=AnyG.slices_BinarySearch_int Tryz.lSearch g 0 zs.length c zs z w lR (by omega) hcell (by rw[an lR];exact hs.imp (fun h=>by omega));rw[an lR]at hc
 have e :∀(l:List Int),l.Pairwise (· < ·)->z∈l->l.countP (fun x=>decide (x<z))=l.idxOf z:=by
  intro l;induction l with
  |nil=>intro _ h;cases h
  | cons y r ih=>
    intro hp hm;obtain⟨p1,p2⟩:=bS.1 hp;by_cases q:y=z
    . subst q
      rw[List.countP_cons_of_neg (by simp),List.idxOf_cons_self];exact List.countP_eq_zero.2 (fun a ha=>by have:=p1 a ha;simp;omega)
    . rcases aa.1 hm with e|e
      . exact absurd e.symm q
      . have:=p1 z e
        rw[List.countP_cons_of_pos (by simpa using this),ih p2 e,eG];rw[show(y==z)=false from by simpa using q];rfl
 refine hc.mono ?_;rintro e1 w' ⟨rfl,hq⟩;rw[e zs hs hz];exact⟨⟨_,rfl⟩,hq⟩
theorem MI.at4{w u:World}{xs:List MI}{g o n e:Nat}{x:MI}(hc:∀j v,(xs.flatMap MI.cells)[j]?=some v->w.cell? ⟨g,o+j,none⟩=some v)(hx:xs[e]?=some x)(hb:Below w.heap.size w u):u.cell? ⟨g,o+e*4,none⟩=some (.int .i64 x.op)/\u.cell? ⟨g,o+e*4+1,none⟩=some (.int .i64 x.a)/\u.cell? ⟨g,o+e*4+2,none⟩=some (.int .i64 x.b)/\u.cell? ⟨g,o+e*4+3,none⟩=some (.int .i64 x.c):=by
 have x0:=Rd.elem MI.cells_length hc e _ hx 0 _ rfl;have x1:=Rd.elem MI.cells_length hc e _ hx 1 _ rfl;have x2:=Rd.elem MI.cells_length hc e _ hx 2 _ rfl;have x3:=Rd.elem MI.cells_length hc e _ hx 3 _ rfl;rw[<-hb.cell (aC x0),aS]at x0;rw[<-hb.cell (aC x1)]at x1;rw[<-hb.cell (aC x2)]at x2;rw[<-hb.cell (aC x3)]at x3;exact⟨x0,x1,x2,x3⟩
theorem IG (s:Value)(xs:List MI)(w:World)(hn:xs.length<=1048576)(h:Rd w 4 s xs.length (xs.flatMap MI.cells)):
 Calls Tryz.prog 112 #[s] w fun e w'=>Aj e (EG xs)/\Below w.heap.size w w':=by
 have H:Hid (Rd w 4 s xs.length (xs.flatMap MI.cells)):=h;obtain⟨a1,c1,rfl⟩:=h.is_slice;clear h;generalize hLL:xs.length=n at hn H;have HL:Hid (xs.length=n):=hLL;clear hLL;go_enter Tryz.func112,Tryz.ntmps112;go_wp2
 go_loopw [7] (fun i wr=>∃k:Nat,k<=n/\i=.int .i64 k/\Hid ((∀j,j<k->∀x,xs[j]?=some x->AB x=true->0<=x.c/\x.c<(n:Int))/\Below w.heap.size w wr)) (fun i _=>n-(intOf i).toNat)
 case atStart=>exact⟨0,by omega,rfl,⟨fun j hj=>by omega,aX _ _⟩⟩
 case round=>
  obtain⟨k,hk,rfl,HT⟩:=hrel;by_cases hlt:k<n
  . obtain ⟨x,hx⟩:∃x,xs[k]?=some x:=⟨_,aA (by rw[HL.o];exact hlt)⟩
    have HX:Hid (xs[k]?=some x):=hx;rcases H.o.2 with⟨e0,_⟩|⟨g,o,c,e1,hc1⟩
    . omega
    simp only[aF,aw]at e1;obtain⟨rfl,rfl⟩:=e1;obtain⟨x0,x1,x2,x3⟩:=MI.at4 (n:=0) hc1 hx HT.o.2;clear hc1 hx;have hkL:(k:Int)<(n:Int):=by omega
    go_upto_region 4 with fail
    refine Al (fun u=>Hid (Ak u wr.heap.size #[.int .i64 x.op,.int .i64 x.a,.int .i64 x.b,.int .i64 x.c] 60/\Below w.heap.size w u)) ⟨Ak.new _ _ _,Ab HT.o.2 lR (Aa _ _)⟩ ?_
    intro U1 HU1;clear x0 x1 x2 x3;obtain⟨a0,a1',a2,a3⟩:=KW HU1.o.1;go_wp2_with fail
    refine(Bp x _).mono ?_;rintro e u2 ⟨rfl,b2⟩;have HU2:Hid (Ak u2 wr.heap.size #[.int .i64 x.op,.int .i64 x.a,.int .i64 x.b,.int .i64 x.c] 60/\Below w.heap.size w u2):=⟨HU1.o.1.keep b2,Ab HU1.o.2 lR b2⟩
    clear b2 a0 a1' a2 a3 HU1;obtain⟨a0,a1',a2,a3⟩:=KW HU2.o.1;cases hgo:AB x
    . have HN:Hid ((∀j,j<k+1->∀x,xs[j]?=some x->AB x=true->0<=x.c/\x.c<(n:Int))/\Below w.heap.size w u2):=⟨fun j hj y hy hg=>by
       by_cases e:j=k
       . subst e
         rw[HX.o]at hy;cases hy
         rw[hgo]at hg;cases hg
       . exact HT.o.1 j (by omega) y hy hg,HU2.o.2⟩
      go_wp2
      go_roundw
      case rel=>exact⟨k+1,by omega,by go_num,HN⟩
      case measure=>simp[intOf];omega
    . go_wp2_with fail
      refine(JF x.c n _ (by omega)).mono ?_;rintro e u3 ⟨rfl,hu⟩;have hu2:=hu.symm;clear hu;subst hu2;by_cases r:0<=x.c/\x.c<(n:Int)
      . rw [show decide (0<=x.c/\x.c<(n:Int))=true from by simpa using r]
        have HN:Hid ((∀j,j<k+1->∀x,xs[j]?=some x->AB x=true->0<=x.c/\x.c<(n:Int))/\Below w.heap.size w u2):=⟨fun j hj y hy hg=>by
         by_cases e:j=k
         . subst e
           rw[HX.o]at hy;cases hy
           exact r
         . exact HT.o.1 j (by omega) y hy hg,HU2.o.2⟩
        go_wp2
        go_roundw
        case rel=>exact⟨k+1,by omega,by go_num,HN⟩
        case measure=>simp[intOf];omega
      . rw[show decide (0<=x.c/\x.c<(n:Int))=false from by simpa using r]
        have HN:Hid (¬EG xs):=fun e=>r (by have:=e k x HX.o hgo;rw[HL.o]at this;exact this)
        go_wp2
        go_ret
        exact⟨.no HN.o,HU2.o.2⟩
  . have HY:Hid (EG xs):=fun i x hi hg=>by
     have hlt:=(aD.1 hi).1;rw[HL.o]at hlt⊢;exact HT.o.1 i (by omega) x hi hg
    go_wp2
    go_ret
    exact⟨.yes HY.o,HT.o.2⟩
structure NP(w U:World)(V:Value)(ns:List Int):Prop where
 bel:Below w.heap.size w U
 row:U.ownsRow w.heap.size 2 1 V ns.length (ns.flatMap Ac)
theorem NP.keep{w U U':World}{V:Value}{ns:List Int}(h:NP w U V ns)(hb:Below U.heap.size U U'):NP w U' V ns:=⟨Ab h.bel lR hb,Ag h.row hb lR⟩
theorem NP.app{w U u':World}{V V':Value}{ns:List Int}{z:Int}{m:Nat}(h:NP w U V ns)(hown:u'.ownsRow w.heap.size 2 1 V' m (ns.flatMap Ac++[.int .i64 z]))(hm:m=ns.length+1)(hg:(U.alloc (.cells #[.int .i64 z] 2)).grownBy u' V.ownBlock):NP w u' V' (ns++[z]):=by
 have bA:=Aa U (.cells #[.int .i64 z] 2);refine⟨(Ab h.bel lR bA).grown hg (aY h.bel.size bA.size) (fun i hi=>(h.row.lt i hi).1),?_⟩;rw[aH,aI,<-hm,bP];exact hown
end Go.Proofs.YtdipfjmlfbdkdaaGreat
